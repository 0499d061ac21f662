import PyProof.Rows.All
import HandS.ForMost
import HandS.Wide
import HandS.Flow
import HandS.SortInts
import HandS.IsInst
import HandS.Deep
import HandS.Lambda
import HandS.ForExc
import HandS.CallSlots
import HandS.Words
import HandS.WordsExc
import HandS.Defaults
import HandS.Walk
import HandS.Style
import HandS.Conv
import HandS.TupLe
import HandS.SlotsOwn
import HandS.Ends
import PyProof.EqAt
import PyProof.EqKinds
import PyProof.TupleCall
import Open.SpecLaws
import KE.OsGo
import HandS.ForSpec
import HandS.TryMany
import HandS.EndTab
import HandS.EndBits
import KE.KNest
import HandS.RaiseMore
import PyProof.ReprRoads
import Wide.All
import OpenK.AllK
import Wide.FinOn
import PySem.Challenge.RW_risingday_k14_meetings_and_rooms
set_option Elab.async false
set_option linter.all false
set_option maxRecDepth 100000
set_option maxHeartbeats 2000000
namespace Mp
open PySem L2
/-- a value as a tree: what is built once and not changed any more -/
inductive D where
  | non | bl (b : Bool) | int (i : Int) | str (s : Str)
  | lst (ds : List D) | tup (ds : List D)
  | obj (C : Str) (ns : List Str) (ds : List D)
  | raw (v : V)
abbrev AS := Addr → Prop
/-- where a class of the module stands -/
def clsAt (K : PySem.W.Frag) (x : Str) : Addr := match PySem.W.nsIn K mainGlobals x with
  | some (some (.ref a)) => a
  | _ => 0
theorem clsAt_of {K : PySem.W.Frag} {x : Str} {a : Addr} (h : PySem.W.nsIn K mainGlobals x = some (some (.ref a))) : clsAt K x = a := by unfold clsAt; rw [h]
/-- a list of the module's own top -/
def Wr (K : PySem.W.Frag) (a : Addr) (xs : List V) : Prop := ∃ (o : Obj) (its : Array Value) (n : Nat), K.lookup a = some o ∧ o.cls = .type "list" ∧ o.dict = none ∧ o.data = .seq its n ∧ its.size ≤ sizeLine ∧ Vals xs its.toList
def RdK (K : PySem.W.Frag) (H : Hp) (M : AS) (a : Addr) (xs : List V) : Prop := (¬ M a ∧ Rd H a (.lst xs)) ∨ Wr K a xs
mutual
/-- v shows d in H, by no address of M -/
def Rep (K : PySem.W.Frag) (H : Hp) (M : AS) : D → V → Prop
  | .non, v => v = .non
  | .bl b, v => v = .bl b
  | .int i, v => v = .int i
  | .str s, v => v = .str s
  | .raw w, v => v = w
  | .lst ds, v => ∃ a xs, v = .ref a ∧ RdK K H M a xs ∧ RepL K H M ds xs
  | .tup ds, v => ∃ a xs, v = .ref a ∧ ¬ M a ∧ Rd H a (.tup xs) ∧ RepL K H M ds xs
  | .obj C ns ds, v => ∃ a dx xs, v = .ref a ∧ ¬ M a ∧ H a = some (.ins (clsAt K C) dx (ns.zip xs)) ∧ ns.length = xs.length ∧ RepL K H M ds xs
def RepL (K : PySem.W.Frag) (H : Hp) (M : AS) : List D → List V → Prop
  | [], xs => xs = []
  | d :: ds, xs => ∃ x ys, xs = x :: ys ∧ Rep K H M d x ∧ RepL K H M ds ys
end
/-- the tables of code objects of the program's defs, with the names of their lambdas -/
class TabsW where
  T : List (Addr × Str)
/-- no table of code objects -/
def NT (o : HO) : Prop := ∀ ps, o ≠ .tbl ps
/-- neither a table nor a code object -/
structure Pl (o : HO) : Prop where
  nt : NT o
  nx : ∀ c q, o ≠ LamX.CodeO c q
theorem nt_lst {xs : List V} : NT (.lst xs) := fun _ z => by cases z
theorem nt_tup {xs : List V} : NT (.tup xs) := fun _ z => by cases z
theorem nt_ins {C : Addr} {d : Addr} {xs : List (Str × V)} : NT (.ins C d xs) := fun _ z => by cases z
theorem pl_lst {xs : List V} : Pl (.lst xs) := ⟨nt_lst, fun _ _ z => by unfold LamX.CodeO at z; cases z⟩
/-- something stands there that is no table of code objects -/
def Lv (H : Hp) (a : Addr) : Prop := ∃ o, H a = some o ∧ NT o
theorem Lv.ne {H : Hp} {a : Addr} (h : Lv H a) : H a ≠ none := fun z => by obtain ⟨o, e, _⟩ := h; rw [e] at z; cases z
theorem nn_of {H : Hp} {a : Addr} (h : H a = none) : ¬ Lv H a := fun z => z.ne h
theorem Lv.lst {H : Hp} {a : Addr} {xs : List V} (h : H a = some (.lst xs)) : Lv H a := ⟨_, h, nt_lst⟩
theorem Lv.ins {H : Hp} {a C d : Addr} {xs : List (Str × V)} (h : H a = some (.ins C d xs)) : Lv H a := ⟨_, h, nt_ins⟩
variable [TabsW]
/-- outside M all stands as it stood; tables of code objects may grow -/
structure Stp (M : AS) (H H' : Hp) : Prop where
  st : ∀ a o, H a = some o → ¬ M a → NT o → H' a = some o
  mo : ∀ a, Lv H a → Lv H' a
  tb : ∀ P q, (P, q) ∈ TabsW.T → LamX.TabS H P q → LamX.TabS H' P q
theorem Stp.refl {M : AS} {H : Hp} : Stp M H H := ⟨fun _ _ h _ _ => h, fun _ h => h, fun _ _ _ h => h⟩
theorem Stp.trans {M : AS} {H H1 H2 : Hp} (a : Stp M H H1) (b : Stp M H1 H2) : Stp M H H2 := ⟨fun x o h n t => b.st x o (a.st x o h n t) n t, fun x h => b.mo x (a.mo x h), fun P q m h => b.tb P q m (a.tb P q m h)⟩
theorem Stp.weak {M M' : AS} {H H' : Hp} (a : Stp M H H') (h : ∀ x, M x → M' x) : Stp M' H H' := ⟨fun x o e n t => a.st x o e (fun q => n (h x q)) t, a.mo, a.tb⟩
theorem mo_upd {H : Hp} {p : Addr} {o : HO} (ho : NT o) : ∀ a, Lv H a → Lv (upd H p o) a := fun a h => by
  by_cases e : a = p
  · rw [e]; exact ⟨o, upd_same, ho⟩
  · obtain ⟨u, h1, h2⟩ := h; exact ⟨u, by rw [upd_ne e]; exact h1, h2⟩
theorem mo_new {H : Hp} {p : Addr} {o : HO} (hp : H p = none) : ∀ a, Lv H a → Lv (upd H p o) a := fun a h => by
  obtain ⟨u, h1, h2⟩ := h; exact ⟨u, by rw [upd_ne (ne_of_none h1 hp)]; exact h1, h2⟩
theorem tab_upd {H : Hp} {p : Addr} {o : HO} (hp : ∀ u, H p = some u → Pl u) : ∀ P q, LamX.TabS H P q → LamX.TabS (upd H p o) P q := by
  rintro P q ⟨ps, h1, h2, h3⟩
  have n1 : P ≠ p := fun z => by subst z; exact (hp _ h1).nt ps rfl
  refine ⟨ps, by rw [upd_ne n1]; exact h1, h2, fun pos cv hc => ?_⟩
  obtain ⟨c, e1, e2⟩ := h3 pos cv hc
  have n2 : c ≠ p := fun z => by subst z; exact (hp _ e2).nx _ _ rfl
  exact ⟨c, e1, by rw [upd_ne n2]; exact e2⟩
theorem Stp.new {M : AS} {H : Hp} {p : Addr} {o : HO} (h : H p = none) : Stp M H (upd H p o) := ⟨fun a u e _ _ => by
  rw [upd_ne (ne_of_none e h)]
  exact e, mo_new h, fun P q _ => tab_upd (fun u z => by rw [h] at z; cases z) P q⟩
theorem Stp.set {M : AS} {H : Hp} {p : Addr} {o : HO} (h : M p) (hp : ∀ u, H p = some u → Pl u) (ho : NT o := by first | exact nt_lst | exact nt_ins | exact nt_tup) : Stp M H (upd H p o) := ⟨fun a u e n _ => by
  rw [upd_ne (fun z => n (by rw [z]; exact h))]
  exact e, mo_upd ho, fun P q _ => tab_upd hp P q⟩
/-- a list stands there -/
theorem pl_at {H : Hp} {p : Addr} {xs : List V} (h : H p = some (.lst xs)) : ∀ u, H p = some u → Pl u := fun u z => by rw [h] at z; cases z; exact pl_lst
theorem Rd.stp {M : AS} {H H' : Hp} {a : Addr} {u : HO} (e : Stp M H H') (n : ¬ M a) (nu : NT u) (h : Rd H a u) : Rd H' a u := by
  rcases h with h | ⟨o, h⟩
  · exact .inl (e.st _ _ h n nu)
  · exact .inr ⟨o, e.st _ _ h n (fun _ z => by cases z)⟩
theorem Rd.ne {H : Hp} {a : Addr} {u : HO} (h : Rd H a u) (nu : NT u) : Lv H a := by
  rcases h with h | ⟨o, h⟩
  · exact ⟨u, h, nu⟩
  · exact ⟨_, h, fun _ z => by cases z⟩
theorem Rd.l {K : PySem.W.Frag} {H : Hp} {a : Addr} {xs : List V} (h : Rd H a (.lst xs)) : SqL K H a xs := .inl h
theorem Rd.t {K : PySem.W.Frag} {H : Hp} {a : Addr} {xs : List V} (h : Rd H a (.tup xs)) : SqT K H a xs := .inl h
section
variable {K : PySem.W.Frag} {H H' : Hp} {M M' : AS}
theorem RdK.l {a : Addr} {xs : List V} (h : RdK K H M a xs) : SqL K H a xs := h.elim (fun q => .inl q.2) .inr
theorem RdK.ofS {a : Addr} {xs : List V} (n : ¬ M a) (h : SqL K H a xs) : RdK K H M a xs := h.elim (fun q => .inl ⟨n, q⟩) .inr
theorem RdK.stp {a : Addr} {xs : List V} (e : Stp M H H') (m : ∀ x, M' x → M x) (h : RdK K H M a xs) : RdK K H' M' a xs := h.elim (fun q => .inl ⟨fun z => q.1 (m a z), Rd.stp e q.1 nt_lst q.2⟩) .inr
theorem RdK.grow {a : Addr} {xs : List V} (m : ∀ x, M' x → M x ∨ ¬ Lv H x) (h : RdK K H M a xs) : RdK K H M' a xs := h.elim (fun q => .inl ⟨fun z => (m a z).elim q.1 fun w => w (Rd.ne q.2 nt_lst), q.2⟩) .inr
mutual
theorem Rep.stp (e : Stp M H H') (m : ∀ x, M' x → M x) : ∀ (d : D) (v : V), Rep K H M d v → Rep K H' M' d v
  | .non, v, h => by unfold Rep at h ⊢; exact h
  | .bl b, v, h => by unfold Rep at h ⊢; exact h
  | .int i, v, h => by unfold Rep at h ⊢; exact h
  | .str s, v, h => by unfold Rep at h ⊢; exact h
  | .raw w, v, h => by unfold Rep at h ⊢; exact h
  | .lst ds, v, h => by
    unfold Rep at h ⊢
    obtain ⟨a, xs, rfl, q, r⟩ := h
    exact ⟨a, xs, rfl, q.stp e m, RepL.stp e m ds xs r⟩
  | .tup ds, v, h => by
    unfold Rep at h ⊢
    obtain ⟨a, xs, rfl, n, q, r⟩ := h
    exact ⟨a, xs, rfl, fun z => n (m a z), Rd.stp e n nt_tup q, RepL.stp e m ds xs r⟩
  | .obj C ns ds, v, h => by
    unfold Rep at h ⊢
    obtain ⟨a, dx, xs, rfl, n, q, z, r⟩ := h
    exact ⟨a, dx, xs, rfl, fun z => n (m a z), e.st _ _ q n nt_ins, z, RepL.stp e m ds xs r⟩
theorem RepL.stp (e : Stp M H H') (m : ∀ x, M' x → M x) : ∀ (ds : List D) (xs : List V), RepL K H M ds xs → RepL K H' M' ds xs
  | [], xs, h => by unfold RepL at h ⊢; exact h
  | d :: ds, xs, h => by
    unfold RepL at h ⊢
    obtain ⟨x, ys, rfl, r, q⟩ := h
    exact ⟨x, ys, rfl, Rep.stp e m d x r, RepL.stp e m ds ys q⟩
end
mutual
/-- other addresses may be set apart, if nothing stood there -/
theorem Rep.grow (m : ∀ x, M' x → M x ∨ ¬ Lv H x) : ∀ (d : D) (v : V), Rep K H M d v → Rep K H M' d v
  | .non, v, h => by unfold Rep at h ⊢; exact h
  | .bl b, v, h => by unfold Rep at h ⊢; exact h
  | .int i, v, h => by unfold Rep at h ⊢; exact h
  | .str s, v, h => by unfold Rep at h ⊢; exact h
  | .raw w, v, h => by unfold Rep at h ⊢; exact h
  | .lst ds, v, h => by
    unfold Rep at h ⊢
    obtain ⟨a, xs, rfl, q, r⟩ := h
    exact ⟨a, xs, rfl, q.grow m, RepL.grow m ds xs r⟩
  | .tup ds, v, h => by
    unfold Rep at h ⊢
    obtain ⟨a, xs, rfl, n, q, r⟩ := h
    exact ⟨a, xs, rfl, fun z => (m a z).elim n fun w => w (Rd.ne q nt_tup), q, RepL.grow m ds xs r⟩
  | .obj C ns ds, v, h => by
    unfold Rep at h ⊢
    obtain ⟨a, dx, xs, rfl, n, q, z, r⟩ := h
    exact ⟨a, dx, xs, rfl, fun z => (m a z).elim n fun w => w (Lv.ins q), q, z, RepL.grow m ds xs r⟩
theorem RepL.grow (m : ∀ x, M' x → M x ∨ ¬ Lv H x) : ∀ (ds : List D) (xs : List V), RepL K H M ds xs → RepL K H M' ds xs
  | [], xs, h => by unfold RepL at h ⊢; exact h
  | d :: ds, xs, h => by
    unfold RepL at h ⊢
    obtain ⟨x, ys, rfl, r, q⟩ := h
    exact ⟨x, ys, rfl, Rep.grow m d x r, RepL.grow m ds ys q⟩
end
theorem RepL.length : ∀ {ds : List D} {xs : List V}, RepL K H M ds xs → ds.length = xs.length
  | [], xs, h => by unfold RepL at h; subst h; rfl
  | d :: ds, xs, h => by
    unfold RepL at h
    obtain ⟨x, ys, rfl, r, q⟩ := h
    simp [RepL.length q]
theorem RepL.nil : RepL K H M [] [] := by unfold RepL; rfl
theorem RepL.cons {d : D} {ds : List D} {x : V} {xs : List V} (h : Rep K H M d x) (r : RepL K H M ds xs) : RepL K H M (d :: ds) (x :: xs) := by unfold RepL; exact ⟨x, xs, rfl, h, r⟩
theorem RepL.append : ∀ {ds es : List D} {xs ys : List V}, RepL K H M ds xs → RepL K H M es ys → RepL K H M (ds ++ es) (xs ++ ys)
  | [], es, xs, ys, h, r => by unfold RepL at h; subst h; exact r
  | d :: ds, es, xs, ys, h, r => by
    unfold RepL at h
    obtain ⟨x, zs, rfl, q, h⟩ := h
    exact RepL.cons q (RepL.append h r)
theorem RepL.get : ∀ {ds : List D} {xs : List V} {i : Nat} {d : D}, RepL K H M ds xs → ds[i]? = some d → ∃ x, xs[i]? = some x ∧ Rep K H M d x
  | [], xs, i, d, h, e => by simp at e
  | d :: ds, xs, 0, d', h, e => by
    unfold RepL at h
    obtain ⟨x, zs, rfl, q, h⟩ := h
    simp at e; subst e
    exact ⟨x, rfl, q⟩
  | d :: ds, xs, i + 1, d', h, e => by
    unfold RepL at h
    obtain ⟨x, zs, rfl, q, h⟩ := h
    obtain ⟨y, a, b⟩ := RepL.get (i := i) h (by simpa using e)
    exact ⟨y, by simpa using a, b⟩
theorem RepL.get' : ∀ {ds : List D} {xs : List V} {i : Nat} {x : V}, RepL K H M ds xs → xs[i]? = some x → ∃ d, ds[i]? = some d ∧ Rep K H M d x := fun {ds xs i x} h e => by
  have hl := h.length
  obtain ⟨hi, _⟩ := List.getElem?_eq_some_iff.mp e
  have : i < ds.length := by omega
  obtain ⟨y, a, b⟩ := h.get (List.getElem?_eq_getElem this)
  rw [e] at a; cases a
  exact ⟨_, List.getElem?_eq_getElem this, b⟩
theorem RepL.set : ∀ {ds : List D} {xs : List V} {i : Nat} {d : D} {x : V}, RepL K H M ds xs → Rep K H M d x → RepL K H M (ds.set i d) (xs.set i x)
  | [], xs, i, d, x, h, r => by unfold RepL at h; subst h; exact RepL.nil
  | e :: ds, xs, 0, d, x, h, r => by
    unfold RepL at h
    obtain ⟨y, zs, rfl, q, h⟩ := h
    exact RepL.cons r h
  | e :: ds, xs, i + 1, d, x, h, r => by
    unfold RepL at h
    obtain ⟨y, zs, rfl, q, h⟩ := h
    exact RepL.cons q (RepL.set h r)
theorem RepL.take : ∀ {ds : List D} {xs : List V} (n : Nat), RepL K H M ds xs → RepL K H M (ds.take n) (xs.take n)
  | _, _, 0, h => RepL.nil
  | [], xs, n + 1, h => by unfold RepL at h; subst h; exact RepL.nil
  | d :: ds, xs, n + 1, h => by
    unfold RepL at h
    obtain ⟨y, zs, rfl, q, h⟩ := h
    exact RepL.cons q (RepL.take n h)
theorem RepL.drop : ∀ {ds : List D} {xs : List V} (n : Nat), RepL K H M ds xs → RepL K H M (ds.drop n) (xs.drop n)
  | _, _, 0, h => h
  | [], xs, n + 1, h => by unfold RepL at h; subst h; exact RepL.nil
  | d :: ds, xs, n + 1, h => by
    unfold RepL at h
    obtain ⟨y, zs, rfl, q, h⟩ := h
    exact RepL.drop n h
/-- ints, and nothing else -/
theorem RepL.ints : ∀ {ns : List Int} {xs : List V}, RepL K H M (ns.map D.int) xs → xs = ns.map V.int
  | [], xs, h => by unfold RepL at h; exact h
  | n :: ns, xs, h => by
    rw [List.map_cons] at h
    unfold RepL at h
    obtain ⟨y, zs, rfl, q, h⟩ := h
    unfold Rep at q
    rw [q, RepL.ints h]; rfl
theorem RepL.of_ints : ∀ (ns : List Int), RepL K H M (ns.map D.int) (ns.map V.int)
  | [] => RepL.nil
  | n :: ns => RepL.cons (by unfold Rep; rfl) (RepL.of_ints ns)
theorem RepL.bools : ∀ {ns : List Bool} {xs : List V}, RepL K H M (ns.map D.bl) xs → xs = ns.map V.bl
  | [], xs, h => by unfold RepL at h; exact h
  | n :: ns, xs, h => by
    rw [List.map_cons] at h
    unfold RepL at h
    obtain ⟨y, zs, rfl, q, h⟩ := h
    unfold Rep at q
    rw [q, RepL.bools h]; rfl
end
def truD : D → Option Bool
  | .non => some false
  | .bl b => some b
  | .int i => some (i != 0)
  | .str s => if s.length ≤ 1000000 then some ((s.length : Int) != 0) else none
  | .lst ds => some (!ds.isEmpty)
  | .tup ds => some (!ds.isEmpty)
  | _ => none
mutual
def toPy : D → Option PyData
  | .non => some .none
  | .bl b => some (.bool b)
  | .int i => some (.int i)
  | .str s => some (.str s)
  | .lst ds => (toPys ds).map PyData.list
  | .tup ds => (toPys ds).map PyData.tuple
  | _ => none
def toPys : List D → Option (List PyData)
  | [] => some []
  | d :: ds => match toPy d, toPys ds with
    | some x, some xs => some (x :: xs)
    | _, _ => none
end
theorem truV_of {K : PySem.W.Frag} {H : Hp} {M : AS} {d : D} {v : V} {b : Bool} (r : Rep K H M d v) (t : truD d = some b) : TruV K v H b := by
  have hs : sizeLine = 16777216 := sizeLine_eq
  cases d with
  | non => unfold Rep at r; subst r; cases t; rfl
  | bl c => unfold Rep at r; subst r; cases t; rfl
  | int i => unfold Rep at r; subst r; cases t; rfl
  | str s =>
    unfold Rep at r; subst r
    have t' : (if s.length ≤ 1000000 then some ((s.length : Int) != 0) else none) = some b := t
    by_cases hl : s.length ≤ 1000000
    · rw [if_pos hl] at t'
      cases t'
      exact ⟨by omega, rfl⟩
    · rw [if_neg hl] at t'
      cases t'
  | lst ds =>
    unfold Rep at r
    obtain ⟨a, xs, rfl, q, z⟩ := r
    cases t
    refine .inl ⟨xs, q.l, ?_⟩
    have := z.length
    cases ds <;> cases xs <;> simp_all
  | tup ds =>
    unfold Rep at r
    obtain ⟨a, xs, rfl, _, q, z⟩ := r
    cases t
    refine .inr (.inl ⟨xs, Rd.t q, ?_⟩)
    have := z.length
    cases ds <;> cases xs <;> simp_all
  | obj C ns ds => cases t
  | raw w => cases t
section
variable {K : PySem.W.Frag} {H : Hp} {M : AS}
mutual
theorem dp_of : ∀ (d : D) (v : V) (p : PyData), Rep K H M d v → toPy d = some p → Dp K H v p
  | .non, v, p, r, t => by unfold Rep at r; unfold toPy at t; subst r; cases t; exact .non
  | .bl b, v, p, r, t => by unfold Rep at r; unfold toPy at t; subst r; cases t; exact .bl b
  | .int i, v, p, r, t => by unfold Rep at r; unfold toPy at t; subst r; cases t; exact .int i
  | .str s, v, p, r, t => by unfold Rep at r; unfold toPy at t; subst r; cases t; exact .str s
  | .lst ds, v, p, r, t => by
    unfold Rep at r; unfold toPy at t
    obtain ⟨a, xs, rfl, q, z⟩ := r
    cases e : toPys ds with
    | none => rw [e] at t; cases t
    | some ps =>
      rw [e] at t; cases t
      exact .lst q.l (dps_of ds xs ps z e)
  | .tup ds, v, p, r, t => by
    unfold Rep at r; unfold toPy at t
    obtain ⟨a, xs, rfl, _, q, z⟩ := r
    cases e : toPys ds with
    | none => rw [e] at t; cases t
    | some ps =>
      rw [e] at t; cases t
      exact .tup (Rd.t q) (dps_of ds xs ps z e)
  | .obj C ns ds, v, p, r, t => by unfold toPy at t; cases t
  | .raw w, v, p, r, t => by unfold toPy at t; cases t
theorem dps_of : ∀ (ds : List D) (xs : List V) (ps : List PyData), RepL K H M ds xs → toPys ds = some ps → DpAll K H xs ps
  | [], xs, ps, r, t => by unfold RepL at r; unfold toPys at t; subst r; cases t; exact .nil
  | d :: ds, xs, ps, r, t => by
    unfold RepL at r; unfold toPys at t
    obtain ⟨x, ys, rfl, r, q⟩ := r
    cases e : toPy d with
    | none => rw [e] at t; cases t
    | some p =>
      cases e2 : toPys ds with
      | none => rw [e, e2] at t; cases t
      | some ps' =>
        rw [e, e2] at t; cases t
        exact .cons (dp_of d x p r e) (dps_of ds ys ps' q e2)
end
end
end Mp
set_option maxHeartbeats 2000000
namespace Mp
open PySem L2
inductive Cell where
  | dat (d : D) | own (ds : List D) | io (ds : List D) | slf (C : Str) (ns : List Str) (ds : List D)
abbrev Env := List (Option Cell)
inductive Opd where
  | val (d : D) | pl (i : Nat)
inductive R (α : Type) where
  | ok (a : α) (env : Env) | exc (C : Str) (f : Str) (d : D) (env : Env) | bad
def R.bind {α β : Type} : R α → (α → Env → R β) → R β
  | .ok a env, k => k a env
  | .exc C f d env, _ => .exc C f d env
  | .bad, _ => .bad
inductive FR where
  | ok (d : D) (out : List D) | exc (C : Str) (f : Str) (d : D) (out : List D) | bad
structure Fn where
  n : Nat
  io : Option Nat
  sem : List D → FR
inductive BOp where
  | add | sub | mul | fdiv | mod | pow
inductive COp where
  | eq | ne | lt | le | gt | ge | is_ | isnot | in_ | notin
inductive Ty where
  | int | bool | str | list | tuple | dict | cls (C : Str)
inductive Blt where
  | len | int | max2 | min2 | sorted | list | tuple | all | any | abs | range1 | range2 | maxl | minl | sum | bool | repr
/-- a clause that tells an error: its class, its field, the word put ahead, whether the repr is told -/
structure HC where
  C : Str
  f : Str
  lab : Str
  rep : Bool
inductive Tgt where
  | name (i : Nat) | tup (is : List Nat)
mutual
inductive IR where
  | c (d : D)
  | v (i : Nat)
  | bin (op : BOp) (a b : IR)
  | cmp (op : COp) (a b : IR)
  | chn (op1 op2 : COp) (a b c : IR)
  | and_ (a b : IR)
  | or_ (a b : IR)
  | not_ (a : IR)
  | neg (a : IR)
  | ite (t a b : IR)
  | tup (es : List IR)
  | lst (es : List IR)
  | ix (a b : IR)
  | sl (a : IR) (lo hi : Option IR)
  | call (j : Nat) (es : List IR)
  | meth (j : Nat) (o : IR) (es : List IR)
  | make (j : Nat) (es : List IR)
  | blt (b : Blt) (es : List IR)
  | isin (a : IR) (ts : List Ty)
  | fld (o : IR) (f : Str)
  | app (i : Nat) (e : IR)
  | pop (i : Nat) (e : IR)
  | lc (tg : Tgt) (it : IT) (t : Option IR) (e : IR) (own : List Nat)
  | lcf (tg : Tgt) (i : Nat) (t : Option IR) (e : IR) (own : List Nat)
  | lrng (e : IR)
  | ocmp (j : Nat) (a b : IR)
  | heard (cs : List HC) (e : IR)
inductive IT where
  | seq (e : IR)
  | rng1 (e : IR)
  | rng2 (a b : IR)
  | zip (a b : IR)
  | enum (a : IR)
end
def BIG : Nat := 100000
def addD : D → D → Option D
  | .int i, .int j => some (.int (i + j))
  | .str a, .str b => if a.length + b.length ≤ BIG then some (.str (a ++ b)) else none
  | .lst a, .lst b => if a.length + b.length ≤ BIG then some (.lst (a ++ b)) else none
  | _, _ => none
def subD : D → D → Option D
  | .int i, .int j => some (.int (i - j))
  | _, _ => none
def mulD : D → D → Option D
  | .int i, .int j => if (-18446744073709551616 < i ∧ i < 18446744073709551616) ∨ (-18446744073709551616 < j ∧ j < 18446744073709551616) then some (.int (i * j)) else none
  | _, _ => none
def fdivD : D → D → Option D
  | .int i, .int j => if 0 < j ∧ j < 1073741824 then some (.int (i / j)) else none
  | _, _ => none
def modD : D → D → Option D
  | .int i, .int j => if 0 < j then some (.int (i % j)) else none
  | _, _ => none
def powD : D → D → Option D
  | .int i, .int j => if 0 ≤ j ∧ j ≤ 1000000 ∧ i.natAbs < 18446744073709551616 then some (.int (i ^ j.toNat)) else none
  | _, _ => none
def binD : BOp → D → D → Option D
  | .add => addD | .sub => subD | .mul => mulD | .fdiv => fdivD | .mod => modD | .pow => powD
mutual
/-- == of data, None where it is not of data (or too deep: n levels) -/
def eqD : D → D → Bool
  | .non, .non => true
  | .bl a, .bl b => a == b
  | .bl a, .int j => (if a then 1 else 0) == j
  | .int i, .bl b => i == (if b then 1 else 0)
  | .int i, .int j => i == j
  | .str x, .str y => x == y
  | .lst xs, .lst ys => eqDs xs ys
  | .tup xs, .tup ys => eqDs xs ys
  | _, _ => false
def eqDs : List D → List D → Bool
  | [], [] => true
  | x :: xs, y :: ys => eqD x y && eqDs xs ys
  | _, _ => false
end
mutual
/-- data, at most n deep -/
def dataD : Nat → D → Bool
  | _, .non => true
  | _, .bl _ => true
  | _, .int _ => true
  | _, .str s => s.cps.all (· < 0x110000)
  | 0, _ => false
  | n + 1, .lst ds => dataDs n ds
  | n + 1, .tup ds => dataDs n ds
  | _, _ => false
def dataDs : Nat → List D → Bool
  | _, [] => true
  | n, d :: ds => dataD n d && dataDs n ds
end
def isNon : D → Bool
  | .non => true
  | _ => false
def cmpD : COp → D → D → Option Bool
  | .eq, x, y => if dataD 20 x && dataD 20 y then some (eqD x y) else none
  | .ne, x, y => if dataD 20 x && dataD 20 y then some (!eqD x y) else none
  | .lt, .int i, .int j => some (decide (i < j))
  | .le, .int i, .int j => some (decide (i ≤ j))
  | .gt, .int i, .int j => some (decide (j < i))
  | .ge, .int i, .int j => some (decide (j ≤ i))
  | .is_, .raw _, _ => none
  | .isnot, .raw _, _ => none
  | .is_, x, .non => some (isNon x)
  | .isnot, x, .non => some (!isNon x)
  | .is_, .bl a, .bl b => some (decide (a = b))
  | .isnot, .bl a, .bl b => some (!decide (a = b))
  | .in_, x, .lst ys => if dataD 19 x && dataDs 19 ys then some (ys.any (eqD x)) else none
  | .in_, x, .tup ys => if dataD 19 x && dataDs 19 ys then some (ys.any (eqD x)) else none
  | .notin, x, .lst ys => if dataD 19 x && dataDs 19 ys then some (!ys.any (eqD x)) else none
  | .notin, x, .tup ys => if dataD 19 x && dataDs 19 ys then some (!ys.any (eqD x)) else none
  | _, _, _ => none
def ixD : D → D → Option D
  | .lst ds, .int i => atI ds i
  | .tup ds, .int i => atI ds i
  | _, _ => none
def cutD (ds : List D) (lo hi : Option Int) : List D := (ds.drop (HT.sIx ds.length 0 lo)).take (HT.sIx ds.length ds.length hi - HT.sIx ds.length 0 lo)
def slD : D → Option Int → Option Int → Option D
  | .lst ds, lo, hi => some (.lst (cutD ds lo hi))
  | _, _, _ => none
def sortI (ns : List Int) : List Int := ns.mergeSort
def intsD : List D → Option (List Int)
  | [] => some []
  | .int i :: ds => (intsD ds).map (i :: ·)
  | _ :: _ => none
def boolsD : List D → Option (List Bool)
  | [] => some []
  | .bl i :: ds => (boolsD ds).map (i :: ·)
  | _ :: _ => none
def iotaD (lo : Int) : Nat → List D
  | 0 => []
  | n + 1 => .int lo :: iotaD (lo + 1) n
/-- data whose repr is told -/
def showB (p : PyData) : Bool := p.showable && !p.hasDict && (match p with | .int i => decide (i.natAbs.log2 < 1920) | _ => true) && decide (p.shown.length ≤ BIG) && decide (p.depth ≤ 60)
def reprD (d : D) : Option D := match toPy d with
  | some p => if showB p then some (.str p.shown) else none
  | none => none
/-- what the first clause of the error's class tells -/
def hear : List HC → Str → Str → D → Option D
  | [], _, _, _ => none
  | c :: cs, C, f, d => if C = c.C then (if f = c.f then (if c.rep then (reprD d).map fun r => .lst [.str c.lab, r] else some (.lst [.str c.lab, d])) else none) else hear cs C f d
def bltD : Blt → List D → Option D
  | .repr, [d] => reprD d
  | .len, [.lst ds] => some (.int ds.length)
  | .len, [.tup ds] => some (.int ds.length)
  | .len, [.str s] => if s.length ≤ 1000000 then some (.int s.length) else none
  | .int, [.int i] => some (.int i)
  | .int, [.bl b] => some (.int (if b then 1 else 0))
  | .bool, [.int i] => some (.bl (i != 0))
  | .bool, [.bl b] => some (.bl b)
  | .abs, [.int i] => some (.int (if i < 0 then -i else i))
  | .max2, [.int i, .int j] => some (.int (if j > i then j else i))
  | .min2, [.int i, .int j] => some (.int (if j < i then j else i))
  | .sorted, [.lst ds] => (intsD ds).map fun ns => .lst ((sortI ns).map .int)
  | .list, [.lst ds] => some (.lst ds)
  | .list, [.tup ds] => some (.lst ds)
  | .tuple, [.lst ds] => some (.tup ds)
  | .tuple, [.tup ds] => some (.tup ds)
  | .all, [.lst ds] => (boolsD ds).map fun bs => .bl (bs.all id)
  | .any, [.lst ds] => (boolsD ds).map fun bs => .bl (bs.any id)
  | .sum, [.lst ds] => (intsD ds).map fun ns => .int ns.sum
  | _, _ => none
def tyD : Ty → D → Bool
  | .int, .int _ => true
  | .int, .bl _ => true
  | .bool, .bl _ => true
  | .str, .str _ => true
  | .list, .lst _ => true
  | .tuple, .tup _ => true
  | .cls C, .obj C' _ _ => decide (C = C')
  | _, _ => false
/-- a value whose class is known -/
def knownB (cs : List Str) : D → Bool
  | .obj C _ _ => cs.contains C
  | .raw _ => false
  | _ => true
def content : Cell → D
  | .dat d => d
  | .own ds => .lst ds
  | .io ds => .lst ds
  | .slf C ns ds => .obj C ns ds
def cellAt (env : Env) (i : Nat) : Option Cell := (env[i]?).join
/-- what an operand is worth now -/
def rdO (env : Env) : Opd → Option D
  | .val d => some d
  | .pl i => (cellAt env i).map content
/-- an operand is kept by something else: a list of one's own is not changed any more -/
def takeO (env : Env) : Opd → Option (D × Env)
  | .val d => some (d, env)
  | .pl i => match cellAt env i with
    | some (.own ds) => some (.lst ds, env.set i (some (.dat (.lst ds))))
    | some (.dat d) => some (d, env)
    | _ => none
/-- a slot that may be given another value -/
def freeB (env : Env) (i : Nat) : Bool := match env[i]? with
  | some (some (.io _)) => false
  | some (some (.slf _ _ _)) => false
  | some _ => true
  | none => false
def bindT (tg : Tgt) (d : D) (env : Env) : Option Env := match tg with
  | .name i => if freeB env i then some (env.set i (some (.dat d))) else none
  | .tup is => match d with
    | .tup ds => if ds.length = is.length ∧ is.all (freeB env) = true then some ((is.zip ds).foldl (fun e p => e.set p.1 (some (.dat p.2))) env) else none
    | _ => none
/-- the target's slots -/
def tgOwn : Tgt → List Nat
  | .name i => [i]
  | .tup is => is
/-- slots that hold a list of one's own can't be hidden by a comprehension -/
def hideB (env : Env) (i : Nat) : Bool := match env[i]? with
  | some none => true
  | some (some (.dat _)) => true
  | _ => false
def ownB (env : Env) (i : Nat) : Bool := match env[i]? with
  | some (some (.own _)) => true
  | _ => false
def wipeE (env : Env) : List Nat → Env
  | [] => env
  | i :: is => (wipeE env is).set i none
/-- behind a comprehension: its slots as they were -/
def backE (old : Env) (env : Env) : List Nat → Env
  | [] => env
  | i :: is => (backE old env is).set i ((old[i]?).join)
def R.take (r : R Opd) : R D := r.bind fun o env => match takeO env o with
  | some (d, env') => .ok d env'
  | none => .bad
def R.rd (r : R Opd) : R D := r.bind fun o env => match rdO env o with
  | some d => .ok d env
  | none => .bad
def lift (env : Env) : Option D → R Opd
  | some d => .ok (.val d) env
  | none => .bad
structure Mt where
  C : Str
  name : Str
  n : Nat
  sem : List D → FR
structure Mkr where
  C : Str
  n : Nat
  ns : List Str
  sem : List D → FR
structure Ctx where
  fns : List Fn
  mts : List Mt
  mks : List Mkr
  cls : List Str
  frs : List Fn
/-- a comprehension's turns -/
def lcLoop (own : List Nat) (tg : Tgt) (t : Option (Env → R Bool)) (e : Env → R D) : List D → Env → R (List D)
  | [], env => .ok [] env
  | d :: ds, env => match bindT tg d (wipeE env own) with
    | none => .bad
    | some env1 => (match t with
        | none => R.ok true env1
        | some t => t env1).bind fun b env2 => if b then (e env2).bind fun x env3 => (lcLoop own tg t e ds env3).bind fun xs env4 => .ok (x :: xs) env4 else lcLoop own tg t e ds env2
def truR (r : R Opd) : R Bool := r.bind fun o env => match (rdO env o).bind truD with
  | some b => .ok b env
  | none => .bad
def zipD : List D → List D → List D
  | x :: xs, y :: ys => .tup [x, y] :: zipD xs ys
  | _, _ => []
def enumD (k : Int) : List D → List D
  | [] => []
  | x :: xs => .tup [.int k, x] :: enumD (k + 1) xs
def seqD : D → Option (List D)
  | .lst ds => some ds
  | .tup ds => some ds
  | _ => none
def lstD : D → Option (List D)
  | .lst ds => some ds
  | _ => none
def noExc {α : Type} : R α → R α
  | .exc _ _ _ _ => .bad
  | r => r
def frR (env : Env) (io : Option Nat) (ops : List Nat) : FR → R Opd
  | .ok d out => match io with
    | none => .ok (.val d) env
    | some _ => match ops with
      | [i] => (match cellAt env i with
        | some (.own _) => .ok (.val d) (env.set i (some (.own out)))
        | some (.io _) => .ok (.val d) (env.set i (some (.io out)))
        | _ => .bad)
      | _ => .bad
  | .exc C f d out => match io with
    | none => .exc C f d env
    | some _ => match ops with
      | [i] => (match cellAt env i with
        | some (.own _) => .exc C f d (env.set i (some (.own out)))
        | some (.io _) => .exc C f d (env.set i (some (.io out)))
        | _ => .bad)
      | _ => .bad
  | .bad => .bad
mutual
def ev (G : Ctx) : IR → Env → R Opd
  | .c d, env => .ok (.val d) env
  | .v i, env => match cellAt env i with
    | some (.dat d) => .ok (.val d) env
    | some (.own _) => .ok (.pl i) env
    | some (.io _) => .ok (.pl i) env
    | _ => .bad
  | .bin op a b, env => (ev G a env).bind fun x e1 => (ev G b e1).bind fun y e2 => match rdO e2 x, rdO e2 y with
    | some p, some q => lift e2 (binD op p q)
    | _, _ => .bad
  | .cmp op a b, env => (ev G a env).bind fun x e1 => (ev G b e1).bind fun y e2 => match rdO e2 x, rdO e2 y with
    | some p, some q => lift e2 ((cmpD op p q).map .bl)
    | _, _ => .bad
  | .chn op1 op2 a b c, env => (ev G a env).bind fun x e1 => (ev G b e1).bind fun y e2 => match rdO e2 x, rdO e2 y with
    | some p, some q => (match cmpD op1 p q with
      | some true => (ev G c e2).bind fun z e3 => (match rdO e3 y, rdO e3 z with
        | some p, some q => lift e3 ((cmpD op2 p q).map .bl)
        | _, _ => .bad)
      | some false => .ok (.val (.bl false)) e2
      | none => .bad)
    | _, _ => .bad
  | .and_ a b, env => (ev G a env).bind fun x e1 => match (rdO e1 x).bind truD with
    | some true => ev G b e1
    | some false => .ok x e1
    | none => .bad
  | .or_ a b, env => (ev G a env).bind fun x e1 => match (rdO e1 x).bind truD with
    | some true => .ok x e1
    | some false => ev G b e1
    | none => .bad
  | .not_ a, env => (ev G a env).bind fun x e1 => match (rdO e1 x).bind truD with
    | some b => .ok (.val (.bl (!b))) e1
    | none => .bad
  | .neg a, env => (ev G a env).bind fun x e1 => match x with
    | .val (.int i) => .ok (.val (.int (-i))) e1
    | _ => .bad
  | .ite t a b, env => (truR (ev G t env)).bind fun c e1 => if c then ev G a e1 else ev G b e1
  | .tup es, env => (evs G es env).bind fun ds e1 => if ds.length ≤ BIG then .ok (.val (.tup ds)) e1 else .bad
  | .lst es, env => (evs G es env).bind fun ds e1 => if ds.length ≤ BIG then .ok (.val (.lst ds)) e1 else .bad
  | .ix a b, env => (ev G a env).bind fun x e1 => (ev G b e1).bind fun y e2 => match rdO e2 x, rdO e2 y with
    | some p, some q => lift e2 (ixD p q)
    | _, _ => .bad
  | .sl a lo hi, env => (ev G a env).bind fun x e1 => (evo G lo e1).bind fun i e2 => (evo G hi e2).bind fun j e3 => match rdO e3 x with
    | some p => lift e3 (slD p i j)
    | none => .bad
  | .call j es, env => match G.fns[j]? with
    | none => .bad
    | some f => if es.length = f.n then (eva G f.io 0 es env).bind fun p e1 => (match (p.1.mapM (rdO e1)) with
      | some ds => frR e1 f.io p.2 (f.sem ds)
      | none => .bad) else .bad
  | .meth j o es, env => match G.mts[j]? with
    | none => .bad
    | some m => (ev G o env).bind fun x e1 => match x with
      | .val (.obj C ns ds) => if C = m.C ∧ es.length + 1 = m.n ∧ ns.contains m.name = false then (evs G es e1).bind fun vs e2 => frR e2 none [] (m.sem (.obj C ns ds :: vs)) else .bad
      | _ => .bad
  | .make j es, env => match G.mks[j]? with
    | none => .bad
    | some m => if es.length = m.n then (evs G es env).bind fun vs e1 => (match m.sem vs with
      | .ok _ out => .ok (.val (.obj m.C m.ns out)) e1
      | .exc C f d _ => .exc C f d e1
      | .bad => .bad) else .bad
  | .blt b es, env => (evr G es env).bind fun os e1 => match os.mapM (rdO e1) with
    | some ds => lift e1 (bltD b ds)
    | none => .bad
  | .isin a ts, env => (ev G a env).bind fun x e1 => match rdO e1 x with
    | some d => if knownB G.cls d then .ok (.val (.bl (ts.any fun t => tyD t d))) e1 else .bad
    | none => .bad
  | .fld o f, env => (ev G o env).bind fun x e1 => match rdO e1 x with
    | some (.obj C ns ds) => if G.cls.contains C then lift e1 ((ns.zip ds).lookup f) else .bad
    | _ => .bad
  | .app i e, env => if ownB env i then (ev G e env).take.bind fun d e1 => match e1[i]? with
    | some (some (.own ds)) => if ds.length < BIG then .ok (.val .non) (e1.set i (some (.own (ds ++ [d])))) else .bad
    | _ => .bad
    else .bad
  | .pop i e, env => if ownB env i then (ev G e env).rd.bind fun d e1 => match e1[i]?, d with
    | some (some (.own ds)), .int k => if 0 ≤ k ∧ k < ds.length ∧ k < 1000000 then (match ds[k.toNat]? with
        | some x => .ok (.val x) (e1.set i (some (.own (ds.eraseIdx k.toNat))))
        | none => .bad) else .bad
    | _, _ => .bad
    else .bad
  | .lc tg it t e own, env => (noExc (evi G it env)).bind fun ds e1 => if ds.length ≤ BIG ∧ own.all (hideB e1) = true ∧ (tgOwn tg).all (fun i => own.contains i) = true then
        (noExc (lcLoop own tg (match t with
          | none => none
          | some t => some fun x => truR (ev G t x)) (fun x => (ev G e x).take) ds e1)).bind fun xs e2 => .ok (.val (.lst xs)) (backE e1 e2 own) else .bad
  | .lcf tg i t e own, env => match env[i]? with
    | some (some (.own ds)) => if ds.length ≤ BIG ∧ own.all (hideB (env.set i none)) = true ∧ (tgOwn tg).all (fun i => own.contains i) = true then
        (noExc (lcLoop own tg (match t with
          | none => none
          | some t => some fun x => truR (ev G t x)) (fun x => (ev G e x).take) ds (env.set i none))).bind fun xs e2 => (match (backE (env.set i none) e2 own)[i]? with
            | some none => .ok (.val (.lst xs)) ((backE (env.set i none) e2 own).set i (some (.own ds)))
            | _ => .bad) else .bad
    | _ => .bad
  | .lrng e, env => (ev G e env).rd.bind fun d e1 => match d with
    | .int j => if -1000000 ≤ j ∧ j ≤ BIG then .ok (.val (.lst (iotaD 0 j.toNat))) e1 else .bad
    | _ => .bad
  | .ocmp j a b, env => (ev G a env).bind fun x e1 => (ev G b e1).bind fun y e2 => match G.mts[j]?, x, y with
    | some m, .val (.obj C ns ds), .val (.obj C' ns' ds') => if C = m.C ∧ C' = m.C ∧ m.n = 2 then (match m.sem [.obj C ns ds, .obj C' ns' ds'] with
      | .ok (.bl k) _ => .ok (.val (.bl k)) e2
      | _ => .bad) else .bad
    | _, _, _ => .bad
  | .heard cs e, env => match ev G e env with
    | .ok _ e1 => .ok (.val .non) e1
    | .exc C f d e1 => lift e1 (hear cs C f d)
    | .bad => .bad
/-- items that are kept -/
def evs (G : Ctx) : List IR → Env → R (List D)
  | [], env => .ok [] env
  | e :: es, env => (ev G e env).take.bind fun d e1 => (evs G es e1).bind fun ds e2 => .ok (d :: ds) e2
/-- items that are looked at alone -/
def evr (G : Ctx) : List IR → Env → R (List Opd)
  | [], env => .ok [] env
  | e :: es, env => (ev G e env).bind fun d e1 => (evr G es e1).bind fun ds e2 => .ok (d :: ds) e2
/-- arguments; the one at io is handed over to be changed: its slot -/
def eva (G : Ctx) (io : Option Nat) : Nat → List IR → Env → R (List Opd × List Nat)
  | _, [], env => .ok ([], []) env
  | n, e :: es, env => if io = some n then (ev G e env).bind fun x e1 => (match x with
        | .pl i => (eva G io (n + 1) es e1).bind fun p e2 => .ok (.pl i :: p.1, i :: p.2) e2
        | _ => .bad)
      else (ev G e env).take.bind fun d e1 => (eva G io (n + 1) es e1).bind fun p e2 => .ok (.val d :: p.1, p.2) e2
def evo (G : Ctx) : Option IR → Env → R (Option Int)
  | none, env => .ok none env
  | some e, env => (ev G e env).rd.bind fun d e1 => match d with
    | .int i => .ok (some i) e1
    | _ => .bad
/-- what is walked -/
def evi (G : Ctx) : IT → Env → R (List D)
  | .seq e, env => (ev G e env).take.bind fun d e1 => match seqD d with
    | some ds => .ok ds e1
    | none => .bad
  | .rng1 e, env => (ev G e env).rd.bind fun d e1 => match d with
    | .int j => if -1000000 ≤ j ∧ j ≤ 1000000 then .ok (iotaD 0 j.toNat) e1 else .bad
    | _ => .bad
  | .rng2 a b, env => (ev G a env).rd.bind fun d e1 => (ev G b e1).rd.bind fun c e2 => match d, c with
    | .int i, .int j => if -1000000 ≤ i ∧ i ≤ 1000000 ∧ -1000000 ≤ j ∧ j ≤ 1000000 then .ok (iotaD i (j - i).toNat) e2 else .bad
    | _, _ => .bad
  | .zip a b, env => (ev G a env).take.bind fun d e1 => (ev G b e1).take.bind fun c e2 => match lstD d, lstD c with
    | some xs, some ys => .ok (zipD xs ys) e2
    | _, _ => .bad
  | .enum a, env => (ev G a env).take.bind fun d e1 => match lstD d with
    | some xs => .ok (enumD 0 xs) e1
    | none => .bad
end
end Mp
set_option maxHeartbeats 2000000
namespace Mp
open PySem L2
variable [TabsW]
def MutAt (env : Env) (σ : L2.St) (a : Addr) : Prop := ∃ (i : Nat) (ds : List D), env[i]? = some (some (Cell.own ds)) ∧ σ[i]? = some (some (V.ref a))
/-- what may be changed here -/
def WW (A : AS) (env : Env) (σ : L2.St) : AS := fun a => A a ∨ MutAt env σ a
def MM (M0 : AS) (env : Env) (σ : L2.St) : AS := fun a => M0 a ∨ MutAt env σ a
/-- what is set apart is there, and the tables tell what they should -/
structure MOk (M : AS) (H : Hp) : Prop where
  al : ∀ a, M a → Lv H a
  tb : ∀ P q, (P, q) ∈ TabsW.T → LamX.TabS H P q
structure EnvR (K : PySem.W.Frag) (H0 : Hp) (M0 A : AS) (env : Env) (σ : L2.St) (H : Hp) : Prop where
  len : env.length = σ.length
  old : ∀ a o, H0 a = some o → ¬ A a → NT o → H a = some o
  alive : ∀ a, Lv H0 a → Lv H a
  tb : ∀ P q, (P, q) ∈ TabsW.T → LamX.TabS H P q
  m0 : ∀ a, M0 a → Lv H a
  aM : ∀ a, A a → M0 a
  a1 : ∀ a b, A a → A b → a = b
  dat : ∀ (i : Nat) (d : D), env[i]? = some (some (Cell.dat d)) → ∃ v, σ[i]? = some (some v) ∧ Rep K H (MM M0 env σ) d v
  own : ∀ (i : Nat) (ds : List D), env[i]? = some (some (Cell.own ds)) → ∃ a xs, σ[i]? = some (some (V.ref a)) ∧ H a = some (.lst xs) ∧ RepL K H (MM M0 env σ) ds xs ∧ ¬ M0 a ∧ ¬ Lv H0 a
  io : ∀ (i : Nat) (ds : List D), env[i]? = some (some (Cell.io ds)) → ∃ a xs, σ[i]? = some (some (V.ref a)) ∧ A a ∧ H a = some (.lst xs) ∧ RepL K H (MM M0 env σ) ds xs
  inj : ∀ (i j : Nat) (a : Addr) (ds es : List D), env[i]? = some (some (Cell.own ds)) → env[j]? = some (some (Cell.own es)) → σ[i]? = some (some (V.ref a)) → σ[j]? = some (some (V.ref a)) → i = j
  io1 : ∀ (i j : Nat) (ds es : List D), env[i]? = some (some (Cell.io ds)) → env[j]? = some (some (Cell.io es)) → i = j
  slf : ∀ (i : Nat) (C : Str) (ns : List Str) (ds : List D), env[i]? = some (some (Cell.slf C ns ds)) → False
def OpdR (K : PySem.W.Frag) (M0 : AS) (env : Env) (σ : L2.St) (H : Hp) : Opd → V → Prop
  | .val d, v => Rep K H (MM M0 env σ) d v
  | .pl i, v => σ[i]? = some (some v) ∧ ∃ c, env[i]? = some (some c)
/-- nothing new is ours, no slot is lost -/
structure Sub (σ : L2.St) (env env' : Env) : Prop where
  own : ∀ a, MutAt env' σ a → MutAt env σ a
  there : ∀ (i : Nat) (c : Cell), env[i]? = some (some c) → ∃ c', env'[i]? = some (some c')
  io : ∀ (i : Nat) (ds : List D), env'[i]? = some (some (Cell.io ds)) → ∃ es, env[i]? = some (some (Cell.io es))
  len : env'.length = env.length
theorem Sub.refl {σ : L2.St} {env : Env} : Sub σ env env := ⟨fun _ z => z, fun _ c h => ⟨c, h⟩, fun _ ds h => ⟨ds, h⟩, rfl⟩
theorem Sub.trans {σ : L2.St} {env e1 e2 : Env} (a : Sub σ env e1) (b : Sub σ e1 e2) : Sub σ env e2 :=
  ⟨fun x z => a.own x (b.own x z), fun i c h => let ⟨c1, h1⟩ := a.there i c h; b.there i c1 h1, fun i ds h => let ⟨es, h1⟩ := b.io i ds h; a.io i es h1, b.len.trans a.len⟩
section
variable {K : PySem.W.Frag} {H0 H H' : Hp} {M0 A : AS} {env env' : Env} {σ : L2.St}
theorem EnvR.freshL (E : EnvR K H0 M0 A env σ H) {p : Addr} (h : ¬ Lv H p) : ¬ MM M0 env σ p ∧ ¬ Lv H0 p := by
  refine ⟨fun z => ?_, fun z => h (E.alive p z)⟩
  rcases z with z | ⟨i, ds, e1, e2⟩
  · exact h (E.m0 p z)
  · obtain ⟨a, xs, s, q, _⟩ := E.own i ds e1
    rw [e2] at s; cases s
    exact h (Lv.lst q)
theorem EnvR.fresh (E : EnvR K H0 M0 A env σ H) {p : Addr} (h : H p = none) : ¬ MM M0 env σ p ∧ ¬ Lv H0 p := E.freshL (nn_of h)
theorem EnvR.mok (E : EnvR K H0 M0 A env σ H) : MOk (MM M0 env σ) H := ⟨fun a ha => Classical.byContradiction fun q => (E.freshL q).1 ha, E.tb⟩
theorem WW.sub (hA : ∀ a, A a → M0 a) : ∀ a, WW A env σ a → MM M0 env σ a := fun a z => z.elim (fun q => .inl (hA a q)) .inr
/-- a step that changes no list of ours -/
theorem EnvR.keep (E : EnvR K H0 M0 A env σ H) (s : Stp (fun _ => False) H H') : EnvR K H0 M0 A env σ H' := by
  have st : Stp (MM M0 env σ) H H' := s.weak fun _ z => z.elim
  refine ⟨E.len, fun a o h n t => s.st a o (E.old a o h n t) id t, fun a h => s.mo a (E.alive a h), fun P q h => s.tb P q h (E.tb P q h), fun a h => s.mo a (E.m0 a h), E.aM, E.a1, fun i d h => ?_, fun i ds h => ?_, fun i ds h => ?_, E.inj, E.io1, E.slf⟩
  · obtain ⟨v, a, b⟩ := E.dat i d h
    exact ⟨v, a, Rep.stp st (fun _ z => z) d v b⟩
  · obtain ⟨a, xs, b, c, d, e⟩ := E.own i ds h
    exact ⟨a, xs, b, s.st a _ c id nt_lst, RepL.stp st (fun _ z => z) ds xs d, e⟩
  · obtain ⟨a, xs, b, c, d, e⟩ := E.io i ds h
    exact ⟨a, xs, b, c, s.st a _ d id nt_lst, RepL.stp st (fun _ z => z) ds xs e⟩
theorem EnvR.new (E : EnvR K H0 M0 A env σ H) {p : Addr} {o : HO} (h : H p = none) : EnvR K H0 M0 A env σ (upd H p o) := E.keep (Stp.new h)
/-- what an operand is worth, read -/
theorem OpdR.rd (E : EnvR K H0 M0 A env σ H) {o : Opd} {v : V} {d : D} (r : OpdR K M0 env σ H o v) (e : rdO env o = some d) : Rep K H (fun _ => False) d v := by
  cases o with
  | val d' =>
    cases e
    exact Rep.stp Stp.refl (fun _ z => z.elim) d v r
  | pl i =>
    obtain ⟨h, c, hc⟩ := r
    have e' : (cellAt env i).map content = some d := e
    unfold cellAt at e'
    rw [hc] at e'
    cases c with
    | dat d' =>
      obtain ⟨v', s, l⟩ := E.dat i d' hc
      rw [h] at s; cases s
      cases e'
      exact Rep.stp Stp.refl (fun _ z => z.elim) d' v l
    | slf C ns ds => exact absurd hc (fun q => E.slf i C ns ds q)
    | own ds =>
      obtain ⟨a, xs, s, q, l, _⟩ := E.own i ds hc
      rw [h] at s; cases s
      cases e'
      unfold content Rep
      exact ⟨a, xs, rfl, .inl ⟨id, Rd.of q⟩, RepL.stp Stp.refl (fun _ z => z.elim) ds xs l⟩
    | io ds =>
      obtain ⟨a, xs, s, _, q, l⟩ := E.io i ds hc
      rw [h] at s; cases s
      cases e'
      unfold content Rep
      exact ⟨a, xs, rfl, .inl ⟨id, Rd.of q⟩, RepL.stp Stp.refl (fun _ z => z.elim) ds xs l⟩
/-- kept: the list is ours no more -/
theorem EnvR.take (E : EnvR K H0 M0 A env σ H) {o : Opd} {v : V} {d : D} (r : OpdR K M0 env σ H o v) (e : takeO env o = some (d, env')) :
    EnvR K H0 M0 A env' σ H ∧ Rep K H (MM M0 env' σ) d v ∧ Sub σ env env' := by
  cases o with
  | val d' =>
    cases e
    exact ⟨E, r, Sub.refl⟩
  | pl i =>
    obtain ⟨h, c, hc⟩ := r
    have e' : (match cellAt env i with | some (.own ds) => some (D.lst ds, env.set i (some (Cell.dat (D.lst ds)))) | some (.dat d) => some (d, env) | _ => none) = some (d, env') := e
    unfold cellAt at e'
    rw [hc] at e'
    cases c with
    | dat d' =>
      obtain ⟨v', s, l⟩ := E.dat i d' hc
      rw [h] at s; cases s
      cases e'
      exact ⟨E, l, Sub.refl⟩
    | slf C ns ds => exact absurd hc (fun q => E.slf i C ns ds q)
    | io ds => cases e'
    | own ds =>
      cases e'
      have hi : i < env.length := (List.getElem?_eq_some_iff.mp hc).1
      obtain ⟨a, xs, s, q, l, nm, h0⟩ := E.own i ds hc
      rw [h] at s; cases s
      have sub : ∀ b, MutAt (env.set i (some (Cell.dat (D.lst ds)))) σ b → MutAt env σ b := fun b ⟨j, es, e1, e2⟩ => by
        by_cases hj : i = j
        · subst hj; rw [List.getElem?_set_self hi] at e1; cases e1
        · rw [List.getElem?_set_ne hj] at e1; exact ⟨j, es, e1, e2⟩
      have subM : ∀ b, MM M0 (env.set i (some (Cell.dat (D.lst ds)))) σ b → MM M0 env σ b := fun b z => z.elim .inl fun q => .inr (sub b q)
      have na : ¬ MM M0 (env.set i (some (Cell.dat (D.lst ds)))) σ a := fun z => by
        rcases z with z | ⟨j, es, e1, e2⟩
        · exact nm z
        · by_cases hj : i = j
          · subst hj; rw [List.getElem?_set_self hi] at e1; cases e1
          · rw [List.getElem?_set_ne hj] at e1
            exact hj (E.inj i j a ds es hc e1 h e2)
      have rl : Rep K H (MM M0 (env.set i (some (Cell.dat (D.lst ds)))) σ) (.lst ds) (.ref a) := by
        unfold Rep
        exact ⟨a, xs, rfl, .inl ⟨na, Rd.of q⟩, RepL.stp Stp.refl subM ds xs l⟩
      have other : ∀ {j c}, (env.set i (some (Cell.dat (D.lst ds))))[j]? = some (some c) → (i = j ∧ c = .dat (.lst ds)) ∨ (i ≠ j ∧ env[j]? = some (some c)) := fun {j c} e1 => by
        by_cases hj : i = j
        · subst hj; rw [List.getElem?_set_self hi] at e1; cases e1; exact .inl ⟨rfl, rfl⟩
        · rw [List.getElem?_set_ne hj] at e1; exact .inr ⟨hj, e1⟩
      refine ⟨⟨by rw [List.length_set]; exact E.len, E.old, E.alive, E.tb, E.m0, E.aM, E.a1, fun j d' e1 => ?_, fun j es e1 => ?_, fun j es e1 => ?_, fun j k b es fs e1 e2 => ?_, fun j k es fs e1 e2 => ?_, fun j C ns es e1 => ?_⟩, rl, sub, fun j c e1 => ?_, fun j es e1 => ?_, List.length_set⟩
      · rcases other e1 with ⟨rfl, e⟩ | ⟨_, e1⟩
        · cases e; exact ⟨_, h, rl⟩
        · obtain ⟨v, a1, a2⟩ := E.dat j d' e1
          exact ⟨v, a1, Rep.stp Stp.refl subM d' v a2⟩
      · rcases other e1 with ⟨rfl, e⟩ | ⟨_, e1⟩
        · cases e
        · obtain ⟨b, ys, a1, a2, a3, a4⟩ := E.own j es e1
          exact ⟨b, ys, a1, a2, RepL.stp Stp.refl subM es ys a3, a4⟩
      · rcases other e1 with ⟨rfl, e⟩ | ⟨_, e1⟩
        · cases e
        · obtain ⟨b, ys, a1, a2, a3, a4⟩ := E.io j es e1
          exact ⟨b, ys, a1, a2, a3, RepL.stp Stp.refl subM es ys a4⟩
      · rcases other e1 with ⟨rfl, e⟩ | ⟨_, e1⟩
        · cases e
        · rcases other e2 with ⟨rfl, e⟩ | ⟨_, e2⟩
          · cases e
          · exact E.inj j k b es fs e1 e2
      · rcases other e1 with ⟨rfl, e⟩ | ⟨_, e1⟩
        · cases e
        · rcases other e2 with ⟨rfl, e⟩ | ⟨_, e2⟩
          · cases e
          · exact E.io1 j k es fs e1 e2
      · rcases other e1 with ⟨rfl, e⟩ | ⟨_, e1⟩
        · cases e
        · exact E.slf j C ns es e1
      · by_cases hj : i = j
        · subst hj; exact ⟨_, List.getElem?_set_self hi⟩
        · exact ⟨c, by rw [List.getElem?_set_ne hj]; exact e1⟩
      · rcases other e1 with ⟨rfl, e⟩ | ⟨_, e1⟩
        · cases e
        · exact ⟨es, e1⟩
/-- a value held while more is reckoned -/
theorem hold {d : D} {v : V} (r : Rep K H (MM M0 env σ) d v) (hA : ∀ a, A a → M0 a) (s : Stp (WW A env σ) H H') (sub : Sub σ env env') : Rep K H' (MM M0 env' σ) d v :=
  Rep.stp (s.weak (WW.sub hA)) (fun a z => z.elim .inl fun q => .inr (sub.own a q)) d v r
theorem OpdR.hold {o : Opd} {v : V} (r : OpdR K M0 env σ H o v) (hA : ∀ a, A a → M0 a) (s : Stp (WW A env σ) H H') (sub : Sub σ env env') : OpdR K M0 env' σ H' o v := by
  cases o with
  | val d => exact Mp.hold r hA s sub
  | pl i =>
    obtain ⟨h, c, hc⟩ := r
    exact ⟨h, sub.there i c hc⟩
theorem Stp.trans2 {H1 H2 : Hp} {e1 : Env} (a : Stp (WW A env σ) H H1) (b : Stp (WW A e1 σ) H1 H2) (sub : Sub σ env e1) : Stp (WW A env σ) H H2 :=
  a.trans (b.weak fun x z => z.elim .inl fun q => .inr (sub.own x q))
/-- what follows a reckoning: P of its outcome, W of an error -/
def Sat {α : Type} (K : PySem.W.Frag) (H0 : Hp) (M0 A : AS) (W : WX) (r : R α) (env : Env) (σ : L2.St) (H : Hp) (P : α → Env → Hp → Prop) : Prop := match r with
  | .ok o env' => ∀ H', Stp (WW A env σ) H H' → Sub σ env env' → EnvR K H0 M0 A env' σ H' → P o env' H'
  | .exc C f d env' => ∀ dd v H', Stp (WW A env σ) H H' → Sub σ env env' → EnvR K H0 M0 A env' σ H' → H' dd = some (.xd [(f, v)]) → Rep K H' (MM M0 env' σ) d v → W (.ref (clsAt K C)) (some dd) σ H'
  | .bad => False
variable {W : WX}
theorem Sat.bind {α β : Type} {r : R α} {f : α → Env → R β} {P : β → Env → Hp → Prop} (h : Sat K H0 M0 A W (r.bind f) env σ H P) :
    Sat K H0 M0 A W r env σ H fun o e1 H1 => Sat K H0 M0 A W (f o e1) e1 σ H1 P := by
  cases r with
  | bad => exact h
  | exc C n d e => exact h
  | ok o e1 =>
    intro H1 s1 sub1 E1
    have h' : Sat K H0 M0 A W (f o e1) env σ H P := h
    generalize f o e1 = q at h'
    show Sat K H0 M0 A W q e1 σ H1 P
    cases q with
    | bad => exact h'
    | exc C n d e => exact fun dd v H2 s2 sub2 E2 => h' dd v H2 (s1.trans2 s2 sub1) (sub1.trans sub2) E2
    | ok o2 e2 => exact fun H2 s2 sub2 E2 => h' H2 (s1.trans2 s2 sub1) (sub1.trans sub2) E2
theorem Sat.mono {α : Type} {r : R α} {P P' : α → Env → Hp → Prop} (h : Sat K H0 M0 A W r env σ H P) (m : ∀ o e1 H1, r = .ok o e1 → Stp (WW A env σ) H H1 → Sub σ env e1 → EnvR K H0 M0 A e1 σ H1 → P o e1 H1 → P' o e1 H1) : Sat K H0 M0 A W r env σ H P' := by
  cases r with
  | bad => exact h
  | exc C n d e => exact h
  | ok o e1 => exact fun H1 s1 sub1 E1 => m o e1 H1 rfl s1 sub1 E1 (h H1 s1 sub1 E1)
/-- fewer lists are ours from here on -/
theorem Sat.sub {α : Type} {r : R α} {P : α → Env → Hp → Prop} (h : Sat K H0 M0 A W r env σ H P) (u : Sub σ env env') : Sat K H0 M0 A W r env' σ H P := by
  have w : ∀ x, WW A env' σ x → WW A env σ x := fun x z => z.elim .inl fun q => .inr (u.own x q)
  cases r with
  | bad => exact h
  | exc C n d e => exact fun dd v H2 s2 sub2 E2 => h dd v H2 (s2.weak w) (u.trans sub2) E2
  | ok o e1 => exact fun H1 s1 sub1 E1 => h H1 (s1.weak w) (u.trans sub1) E1
/-- the heap has gone on -/
theorem Sat.step {α : Type} {r : R α} {P : α → Env → Hp → Prop} (h : Sat K H0 M0 A W r env σ H P) (s : Stp (WW A env σ) H H') : Sat K H0 M0 A W r env σ H' P := by
  cases r with
  | bad => exact h
  | exc C n d e => exact fun dd v H2 s2 sub2 E2 => h dd v H2 (s.trans s2) sub2 E2
  | ok o e1 => exact fun H1 s1 sub1 E1 => h H1 (s.trans s1) sub1 E1
end
end Mp
set_option maxHeartbeats 4000000
namespace Mp
open PySem L2
variable [TabsW]
abbrev NoA : AS := fun _ => False
/-- as Rep, the list itself may be one of ours -/
def RepT (K : PySem.W.Frag) (H : Hp) (M : AS) (d : D) (v : V) : Prop := match d with
  | .lst ds => ∃ a xs, v = .ref a ∧ SqL K H a xs ∧ RepL K H M ds xs
  | .tup ds => ∃ a xs, v = .ref a ∧ Rd H a (.tup xs) ∧ RepL K H M ds xs ∧ ¬ M a
  | d => Rep K H M d v
section
variable {K : PySem.W.Frag} {H H' : Hp} {M : AS} {d : D} {v : V}
theorem Rep.top (r : Rep K H M d v) : RepT K H M d v := by
  cases d with
  | lst ds => unfold Rep at r; obtain ⟨a, xs, h1, h2, h3⟩ := r; exact ⟨a, xs, h1, h2.l, h3⟩
  | tup ds => unfold Rep at r; obtain ⟨a, xs, h1, h0, h2, h3⟩ := r; exact ⟨a, xs, h1, h2, h3, h0⟩
  | _ => exact r
theorem RepT.loose (r : RepT K H M d v) : Rep K H NoA d v := by
  cases d with
  | lst ds =>
    obtain ⟨a, xs, h1, h2, h3⟩ := r
    unfold Rep
    exact ⟨a, xs, h1, RdK.ofS id h2, RepL.stp Stp.refl (fun _ z => z.elim) ds xs h3⟩
  | tup ds =>
    obtain ⟨a, xs, h1, h2, h3, _⟩ := r
    unfold Rep
    exact ⟨a, xs, h1, id, h2, RepL.stp Stp.refl (fun _ z => z.elim) ds xs h3⟩
  | non => exact Rep.stp (M := M) Stp.refl (fun _ z => z.elim) _ v r
  | bl b => exact Rep.stp (M := M) Stp.refl (fun _ z => z.elim) _ v r
  | int b => exact Rep.stp (M := M) Stp.refl (fun _ z => z.elim) _ v r
  | str b => exact Rep.stp (M := M) Stp.refl (fun _ z => z.elim) _ v r
  | obj C ns ds => exact Rep.stp (M := M) Stp.refl (fun _ z => z.elim) _ v r
  | raw b => exact Rep.stp (M := M) Stp.refl (fun _ z => z.elim) _ v r
theorem RepT.int {i : Int} (r : RepT K H M (.int i) v) : v = .int i := by
  have r' : Rep K H M (.int i) v := r
  unfold Rep at r'; exact r'
theorem RepT.bl {i : Bool} (r : RepT K H M (.bl i) v) : v = .bl i := by
  have r' : Rep K H M (.bl i) v := r
  unfold Rep at r'; exact r'
theorem RepT.str {i : Str} (r : RepT K H M (.str i) v) : v = .str i := by
  have r' : Rep K H M (.str i) v := r
  unfold Rep at r'; exact r'
theorem RepT.non (r : RepT K H M .non v) : v = .non := by
  have r' : Rep K H M .non v := r
  unfold Rep at r'; exact r'
theorem rep_int (i : Int) : Rep K H M (.int i) (.int i) := by unfold Rep; rfl
theorem rep_bl (i : Bool) : Rep K H M (.bl i) (.bl i) := by unfold Rep; rfl
theorem rep_str (i : Str) : Rep K H M (.str i) (.str i) := by unfold Rep; rfl
theorem rep_non : Rep K H M .non .non := by unfold Rep; rfl
/-- a list just made -/
theorem rep_new {p : Addr} {ds : List D} {xs : List V} (hp : H p = none) (hM : ¬ M p) (r : RepL K H M ds xs) : Rep K (upd H p (.lst xs)) M (.lst ds) (.ref p) := by
  unfold Rep
  exact ⟨p, xs, rfl, .inl ⟨hM, Rd.of upd_same⟩, RepL.stp (Stp.new (M := M) hp) (fun _ z => z) ds xs r⟩
theorem rep_newT {p : Addr} {ds : List D} {xs : List V} (hp : H p = none) (hM : ¬ M p) (r : RepL K H M ds xs) : Rep K (upd H p (.tup xs)) M (.tup ds) (.ref p) := by
  unfold Rep
  exact ⟨p, xs, rfl, hM, Rd.of upd_same, RepL.stp (Stp.new (M := M) hp) (fun _ z => z) ds xs r⟩
end
section
variable {K : PySem.W.Frag} {H0 H H' : Hp} {M0 A : AS} {env env' : Env} {σ : L2.St}
theorem OpdR.rdT (E : EnvR K H0 M0 A env σ H) {o : Opd} {v : V} {d : D} (r : OpdR K M0 env σ H o v) (e : rdO env o = some d) : RepT K H (MM M0 env σ) d v := by
  cases o with
  | val d' =>
    cases e
    exact Rep.top r
  | pl i =>
    obtain ⟨h, c, hc⟩ := r
    have e' : (cellAt env i).map content = some d := e
    unfold cellAt at e'
    rw [hc] at e'
    cases c with
    | dat d' =>
      obtain ⟨v', s, l⟩ := E.dat i d' hc
      rw [h] at s; cases s
      cases e'
      exact Rep.top l
    | slf C ns ds => exact absurd hc (fun q => E.slf i C ns ds q)
    | own ds =>
      obtain ⟨a, xs, s, q, l, _⟩ := E.own i ds hc
      rw [h] at s; cases s
      cases e'
      exact ⟨a, xs, rfl, .inl (Rd.of q), l⟩
    | io ds =>
      obtain ⟨a, xs, s, _, q, l⟩ := E.io i ds hc
      rw [h] at s; cases s
      cases e'
      exact ⟨a, xs, rfl, .inl (Rd.of q), l⟩
end
/-- a two-place operation is what f says -/
def OpS (K : PySem.W.Frag) (r : R2) (f : D → D → Option D) : Prop := ∀ (M : AS) (x y : V) (H : Hp) (p q z : D) (Q : VK), RepT K H M p x → RepT K H M q y → (∀ a, H a = none → ¬ M a) → f p q = some z →
  (∀ v H', Stp NoA H H' → Rep K H' M z v → Q v H') → r x y H Q
def rOr (r r' : R2) : R2 := fun x y H Q => r x y H Q ∨ r' x y H Q
theorem OpR.or {X : Cx} {f : Value → Value → Sem Value} {r r' : R2} (a : OpR X f r) (b : OpR X f r') : OpR X f (rOr r r') := fun pins s σ H x y v u Q I rx ry h =>
  h.elim (fun q => a pins s σ H x y v u Q I rx ry q) fun q => b pins s σ H x y v u Q I rx ry q
/-- list + list, however they stand -/
def rCatR (K : PySem.W.Frag) : R2 := fun x y H Q => ∃ l b xs zs, x = .ref l ∧ y = .ref b ∧ SqL K H l xs ∧ SqL K H b zs ∧ xs.length + zs.length ≤ sizeLine ∧ ∀ p, H p = none → Q (.ref p) (upd H p (.lst (xs ++ zs)))
theorem op_catR {X : Cx} : OpR X (binaryOp .Add) (rCatR X.K) := by
  intro pins s σ H x y v u Q I rx ry h
  obtain ⟨l, b, xs, zs, rfl, rfl, hH, hB, hz, q⟩ := h
  cases rx
  cases ry
  obtain ⟨its, r, ⟨⟨cls, dd, data, sl⟩, n, ho, hc, hd0, hd⟩, hz1⟩ := I.list hH
  obtain ⟨its2, r2, ⟨⟨cls2, dd2, data2, sl2⟩, n2, ho2, hc2, hd02, hd2⟩, hz2⟩ := I.list hB
  simp only at hc hd hc2 hd2
  subst hc hd hc2 hd2
  have l1 := r.length
  have l2 := r2.length
  refine PySem.concat_meets ⟨_, ho, rfl⟩ ⟨_, ho2, rfl⟩ PySem.noFill_list_add PySem.seq_list_add PySem.F.slot_list_add PySem.F.entry_list_add (PySem.F.args_list_add_2 _ _) (PyProof.Rows.list_addW l b its.toArray its2.toArray n n2 dd dd2 sl sl2 (by rw [List.size_toArray, List.size_toArray]; omega)) ⟨ho, ho2, ?_⟩
  have ea : its.toArray ++ its2.toArray = (its ++ its2).toArray := by simp
  rw [ea]
  exact ⟨.ref _, _, I.lnew (t' := s.toks) (r.append r2) (by rw [List.length_append]; omega), rfl, q _ I.fresh⟩
def rAddU (K : PySem.W.Frag) : R2 := rOr (rI0 fun i j => .int (i + j)) (rOr (fun x y H Q => ∃ i j, x = .str i ∧ y = .str j ∧ i.length + j.length ≤ sizeLine ∧ Q (.str (i ++ j)) H) (rCatR K))
theorem op_addU {X : Cx} : OpR X (binaryOp .Add) (rAddU X.K) := OpR.or op_add (OpR.or op_add_str op_catR)
theorem s_add {K : PySem.W.Frag} : OpS K (rAddU K) addD := by
  intro M x y H p q z Q rp rq hM e k
  have hs : sizeLine = 16777216 := sizeLine_eq
  unfold addD at e
  split at e
  · cases e
    rw [rp.int, rq.int]
    exact .inl ⟨_, _, rfl, rfl, k _ _ Stp.refl (rep_int _)⟩
  · rename_i a b
    by_cases hl : a.length + b.length ≤ BIG
    · rw [if_pos hl] at e; cases e
      rw [rp.str, rq.str]
      exact .inr (.inl ⟨_, _, rfl, rfl, by unfold BIG at hl; omega, k _ _ Stp.refl (rep_str _)⟩)
    · rw [if_neg hl] at e; cases e
  · rename_i a b
    by_cases hl : a.length + b.length ≤ BIG
    · rw [if_pos hl] at e; cases e
      obtain ⟨la, xs, rfl, h1, r1⟩ := rp
      obtain ⟨lb, ys, rfl, h2, r2⟩ := rq
      refine .inr (.inr ⟨la, lb, xs, ys, rfl, rfl, h1, h2, by have := r1.length; have := r2.length; unfold BIG at hl; omega, fun p hp => k _ _ (Stp.new hp) (rep_new hp (hM p hp) (r1.append r2))⟩)
    · rw [if_neg hl] at e; cases e
  · cases e
theorem s_sub {K : PySem.W.Frag} : OpS K (rI0 fun i j => .int (i - j)) subD := by
  intro M x y H p q z Q rp rq hM e k
  unfold subD at e
  split at e
  · cases e
    rw [rp.int, rq.int]
    exact ⟨_, _, rfl, rfl, k _ _ Stp.refl (rep_int _)⟩
  · cases e
def rMulU : R2 := rI CMul fun i j => .int (i * j)
theorem s_mul {K : PySem.W.Frag} : OpS K rMulU (fun p q => match p, q with | .int _, .int _ => mulD p q | _, _ => none) := by
  intro M x y H p q z Q rp rq hM e k
  dsimp only at e
  split at e
  · rename_i i j
    unfold mulD at e
    dsimp only at e
    split at e
    · rename_i hc
      cases e
      rw [rp.int, rq.int]
      refine ⟨_, _, rfl, rfl, ?_, k _ _ Stp.refl (rep_int _)⟩
      unfold CMul
      have e64 : (2 : Int) ^ 64 = 18446744073709551616 := by decide
      rw [e64]
      exact hc
    · cases e
  · cases e
theorem s_fdiv {K : PySem.W.Frag} : OpS K (rI CDiv fun i j => .int (i / j)) fdivD := by
  intro M x y H p q z Q rp rq hM e k
  unfold fdivD at e
  split at e
  · split at e
    · rename_i hc
      cases e
      rw [rp.int, rq.int]
      exact ⟨_, _, rfl, rfl, hc, k _ _ Stp.refl (rep_int _)⟩
    · cases e
  · cases e
theorem s_mod {K : PySem.W.Frag} : OpS K (rI (fun _ j => 0 < j) fun i j => .int (i % j)) modD := by
  intro M x y H p q z Q rp rq hM e k
  unfold modD at e
  split at e
  · split at e
    · rename_i hc
      cases e
      rw [rp.int, rq.int]
      exact ⟨_, _, rfl, rfl, hc, k _ _ Stp.refl (rep_int _)⟩
    · cases e
  · cases e
theorem s_pow {K : PySem.W.Frag} : OpS K (rI CPow fun i j => .int (i ^ j.toNat)) powD := by
  intro M x y H p q z Q rp rq hM e k
  unfold powD at e
  split at e
  · split at e
    · rename_i hc
      cases e
      rw [rp.int, rq.int]
      exact ⟨_, _, rfl, rfl, hc, k _ _ Stp.refl (rep_int _)⟩
    · cases e
  · cases e
section
mutual
theorem eqD_py : ∀ (d e : D) (p q : PyData), toPy d = some p → toPy e = some q → PyData.eqv p q = eqD d e
  | .non, e, p, q, hp, hq => by
    unfold toPy at hp; cases hp
    cases e <;> (unfold toPy at hq) <;> first | (cases hq; done) | (cases hq; rfl) | (rename_i ds; cases h : toPys ds <;> (rw [h] at hq; cases hq); rfl)
  | .bl b, e, p, q, hp, hq => by
    unfold toPy at hp; cases hp
    cases e <;> (unfold toPy at hq) <;> first | (cases hq; done) | (cases hq; rfl) | (rename_i ds; cases h : toPys ds <;> (rw [h] at hq; cases hq); rfl)
  | .int b, e, p, q, hp, hq => by
    unfold toPy at hp; cases hp
    cases e <;> (unfold toPy at hq) <;> first | (cases hq; done) | (cases hq; rfl) | (rename_i ds; cases h : toPys ds <;> (rw [h] at hq; cases hq); rfl)
  | .str b, e, p, q, hp, hq => by
    unfold toPy at hp; cases hp
    cases e <;> (unfold toPy at hq) <;> first | (cases hq; done) | (cases hq; rfl) | (rename_i ds; cases h : toPys ds <;> (rw [h] at hq; cases hq); rfl)
  | .lst ds, e, p, q, hp, hq => by
    unfold toPy at hp
    cases h1 : toPys ds with
    | none => rw [h1] at hp; cases hp
    | some ps =>
      rw [h1] at hp; cases hp
      cases e with
      | lst es =>
        unfold toPy at hq
        cases h2 : toPys es with
        | none => rw [h2] at hq; cases hq
        | some qs => rw [h2] at hq; cases hq; exact eqDs_py ds es ps qs h1 h2
      | tup es =>
        unfold toPy at hq
        cases h2 : toPys es with
        | none => rw [h2] at hq; cases hq
        | some qs => rw [h2] at hq; cases hq; rfl
      | _ => unfold toPy at hq; cases hq <;> rfl
  | .tup ds, e, p, q, hp, hq => by
    unfold toPy at hp
    cases h1 : toPys ds with
    | none => rw [h1] at hp; cases hp
    | some ps =>
      rw [h1] at hp; cases hp
      cases e with
      | tup es =>
        unfold toPy at hq
        cases h2 : toPys es with
        | none => rw [h2] at hq; cases hq
        | some qs => rw [h2] at hq; cases hq; exact eqDs_py ds es ps qs h1 h2
      | lst es =>
        unfold toPy at hq
        cases h2 : toPys es with
        | none => rw [h2] at hq; cases hq
        | some qs => rw [h2] at hq; cases hq; rfl
      | _ => unfold toPy at hq; cases hq <;> rfl
  | .obj C ns ds, e, p, q, hp, hq => by unfold toPy at hp; cases hp
  | .raw v, e, p, q, hp, hq => by unfold toPy at hp; cases hp
theorem eqDs_py : ∀ (ds es : List D) (ps qs : List PyData), toPys ds = some ps → toPys es = some qs → PyData.eqvAll ps qs = eqDs ds es
  | [], es, ps, qs, hp, hq => by
    unfold toPys at hp; cases hp
    cases es with
    | nil => unfold toPys at hq; cases hq; rfl
    | cons e es =>
      unfold toPys at hq
      cases h1 : toPy e with
      | none => rw [h1] at hq; cases hq
      | some q0 =>
        cases h2 : toPys es with
        | none => rw [h1, h2] at hq; cases hq
        | some q1 => rw [h1, h2] at hq; cases hq; rfl
  | d :: ds, es, ps, qs, hp, hq => by
    unfold toPys at hp
    cases h3 : toPy d with
    | none => rw [h3] at hp; cases hp
    | some p0 =>
      cases h4 : toPys ds with
      | none => rw [h3, h4] at hp; cases hp
      | some p1 =>
        rw [h3, h4] at hp; cases hp
        cases es with
        | nil => unfold toPys at hq; cases hq; rfl
        | cons e es =>
          unfold toPys at hq
          cases h1 : toPy e with
          | none => rw [h1] at hq; cases hq
          | some q0 =>
            cases h2 : toPys es with
            | none => rw [h1, h2] at hq; cases hq
            | some q1 =>
              rw [h1, h2] at hq; cases hq
              show (PyData.eqv p0 q0 && PyData.eqvAll p1 q1) = (eqD d e && eqDs ds es)
              rw [eqD_py d e p0 q0 h3 h1, eqDs_py ds es p1 q1 h4 h2]
end
end
end Mp
set_option maxHeartbeats 4000000
namespace Mp
open PySem L2
variable [TabsW]
mutual
theorem data_py : ∀ (n : Nat) (d : D), dataD n d = true → ∃ p, toPy d = some p ∧ p.canLay0 = true ∧ p.depth ≤ n
  | n, .non, h => ⟨.none, by unfold toPy; rfl, rfl, Nat.zero_le _⟩
  | n, .bl b, h => ⟨.bool b, by unfold toPy; rfl, rfl, Nat.zero_le _⟩
  | n, .int b, h => ⟨.int b, by unfold toPy; rfl, rfl, Nat.zero_le _⟩
  | n, .str b, h => ⟨.str b, by unfold toPy; rfl, by unfold dataD at h; exact h, Nat.zero_le _⟩
  | 0, .lst ds, h => by unfold dataD at h; cases h
  | 0, .tup ds, h => by unfold dataD at h; cases h
  | n + 1, .lst ds, h => by
    unfold dataD at h
    obtain ⟨ps, e, c, z⟩ := datas_py n ds h
    exact ⟨.list ps, by unfold toPy; rw [e] <;> rfl, c, by show PyData.depthAll ps + 1 ≤ n + 1; omega⟩
  | n + 1, .tup ds, h => by
    unfold dataD at h
    obtain ⟨ps, e, c, z⟩ := datas_py n ds h
    exact ⟨.tuple ps, by unfold toPy; rw [e] <;> rfl, c, by show PyData.depthAll ps + 1 ≤ n + 1; omega⟩
  | 0, .obj C ns ds, h => by unfold dataD at h; cases h
  | n + 1, .obj C ns ds, h => by unfold dataD at h; cases h
  | 0, .raw v, h => by unfold dataD at h; cases h
  | n + 1, .raw v, h => by unfold dataD at h; cases h
theorem datas_py : ∀ (n : Nat) (ds : List D), dataDs n ds = true → ∃ ps, toPys ds = some ps ∧ PyData.canLayAll0 ps = true ∧ PyData.depthAll ps ≤ n
  | n, [], h => ⟨[], by unfold toPys; rfl, rfl, Nat.zero_le _⟩
  | n, d :: ds, h => by
    unfold dataDs at h
    rw [Bool.and_eq_true] at h
    obtain ⟨p, e, c, z⟩ := data_py n d h.1
    obtain ⟨ps, e2, c2, z2⟩ := datas_py n ds h.2
    refine ⟨p :: ps, by unfold toPys; rw [e, e2] <;> rfl, ?_, ?_⟩
    · show (p.canLay0 && PyData.canLayAll0 ps) = true
      rw [c, c2] <;> rfl
    · show max p.depth (PyData.depthAll ps) ≤ n
      omega
end
theorem shaped_of {n : Nat} {d : D} (h : dataD n d = true) (hn : n ≤ 64) : ∃ p, toPy d = some p ∧ SeqAt.shaped p = true := by
  obtain ⟨p, e, c, z⟩ := data_py n d h
  refine ⟨p, e, ?_⟩
  unfold SeqAt.shaped
  rw [c, decide_eq_true (by omega : p.depth ≤ 64)]
  rfl
/-- a comparison is what cmpD says -/
def CmS (K : PySem.W.Frag) (r : R2) (op : COp) : Prop := OpS K r fun p q => (cmpD op p q).map D.bl
theorem OpS.imp {K : PySem.W.Frag} {r : R2} {f g : D → D → Option D} (h : OpS K r f) (i : ∀ p q z, g p q = some z → f p q = some z) : OpS K r g :=
  fun M x y H p q z Q rp rq hM e k => h M x y H p q z Q rp rq hM (i p q z e) k
section
variable {K : PySem.W.Frag}
theorem s_eq : CmS K (rEqD K) .eq := by
  intro M x y H p q z Q rp rq hM e k
  dsimp only [cmpD] at e
  split at e
  · rename_i hd
    cases e
    rw [Bool.and_eq_true] at hd
    obtain ⟨a, ea, sa⟩ := shaped_of hd.1 (by decide)
    obtain ⟨b, eb, sb⟩ := shaped_of hd.2 (by decide)
    refine ⟨a, b, dp_of p x a rp.loose ea, dp_of q y b rq.loose eb, sa, sb, ?_⟩
    rw [eqD_py p q a b ea eb]
    exact k _ _ Stp.refl (rep_bl _)
  · cases e
theorem s_ne : CmS K (rNeD K) .ne := by
  intro M x y H p q z Q rp rq hM e k
  dsimp only [cmpD] at e
  split at e
  · rename_i hd
    cases e
    rw [Bool.and_eq_true] at hd
    obtain ⟨a, ea, sa⟩ := shaped_of hd.1 (by decide)
    obtain ⟨b, eb, sb⟩ := shaped_of hd.2 (by decide)
    refine ⟨a, b, dp_of p x a rp.loose ea, dp_of q y b rq.loose eb, sa, sb, ?_⟩
    rw [eqD_py p q a b ea eb]
    exact k _ _ Stp.refl (rep_bl _)
  · cases e
theorem s_lt : CmS K (rI0 fun i j => .bl (decide (i < j))) .lt := by
  intro M x y H p q z Q rp rq hM e k
  cases p <;> cases q <;> first | (cases e; done) | skip
  cases e
  rw [rp.int, rq.int]
  exact ⟨_, _, rfl, rfl, k _ _ Stp.refl (rep_bl _)⟩
theorem s_le : CmS K (rI0 fun i j => .bl (decide (i ≤ j))) .le := by
  intro M x y H p q z Q rp rq hM e k
  cases p <;> cases q <;> first | (cases e; done) | skip
  cases e
  rw [rp.int, rq.int]
  exact ⟨_, _, rfl, rfl, k _ _ Stp.refl (rep_bl _)⟩
theorem s_gt : CmS K (rI0 fun i j => .bl (decide (j < i))) .gt := by
  intro M x y H p q z Q rp rq hM e k
  cases p <;> cases q <;> first | (cases e; done) | skip
  cases e
  rw [rp.int, rq.int]
  exact ⟨_, _, rfl, rfl, k _ _ Stp.refl (rep_bl _)⟩
theorem s_ge : CmS K (rI0 fun i j => .bl (decide (j ≤ i))) .ge := by
  intro M x y H p q z Q rp rq hM e k
  cases p <;> cases q <;> first | (cases e; done) | skip
  cases e
  rw [rp.int, rq.int]
  exact ⟨_, _, rfl, rfl, k _ _ Stp.refl (rep_bl _)⟩
theorem isNon_of {H : Hp} {M : AS} {p : D} {x : V} (r : RepT K H M p x) (hr : ∀ v, p ≠ .raw v) : decide (x = .non) = isNon p := by
  cases p with
  | non => rw [r.non]; rfl
  | bl b => rw [r.bl]; rfl
  | int b => rw [r.int]; rfl
  | str b => rw [r.str]; rfl
  | lst ds => obtain ⟨a, xs, rfl, _⟩ := r; rfl
  | tup ds => obtain ⟨a, xs, rfl, _⟩ := r; rfl
  | obj C ns ds =>
    have r' : Rep K H M (.obj C ns ds) x := r
    unfold Rep at r'
    obtain ⟨a, _, _, rfl, _⟩ := r'
    rfl
  | raw v => exact absurd rfl (hr v)
theorem s_is : CmS K (rOr (fun x y H Q => y = .non ∧ Q (.bl (decide (x = .non))) H) (fun x y H Q => ∃ a b, x = .bl a ∧ y = .bl b ∧ Q (.bl (decide (a = b))) H)) .is_ := by
  intro M x y H p q z Q rp rq hM e k
  cases q with
  | non =>
    have hr : ∀ v, p ≠ .raw v := fun v z => by subst z; cases e
    have e' : some (D.bl (isNon p)) = some z := by cases p <;> first | exact e | exact absurd rfl (hr _)
    cases e'
    refine .inl ⟨rq.non, ?_⟩
    rw [isNon_of rp hr]
    exact k _ _ Stp.refl (rep_bl _)
  | bl b =>
    cases p <;> first | (cases e; done) | skip
    cases e
    rw [rp.bl, rq.bl]
    exact .inr ⟨_, _, rfl, rfl, k _ _ Stp.refl (rep_bl _)⟩
  | _ => cases p <;> cases e
theorem s_isnot : CmS K (rOr (fun x y H Q => y = .non ∧ Q (.bl (!decide (x = .non))) H) (fun x y H Q => ∃ a b, x = .bl a ∧ y = .bl b ∧ Q (.bl (!decide (a = b))) H)) .isnot := by
  intro M x y H p q z Q rp rq hM e k
  cases q with
  | non =>
    have hr : ∀ v, p ≠ .raw v := fun v z => by subst z; cases e
    have e' : some (D.bl (!isNon p)) = some z := by cases p <;> first | exact e | exact absurd rfl (hr _)
    cases e'
    refine .inl ⟨rq.non, ?_⟩
    rw [isNon_of rp hr]
    exact k _ _ Stp.refl (rep_bl _)
  | bl b =>
    cases p <;> first | (cases e; done) | skip
    cases e
    rw [rp.bl, rq.bl]
    exact .inr ⟨_, _, rfl, rfl, k _ _ Stp.refl (rep_bl _)⟩
  | _ => cases p <;> cases e
theorem atI_rep {H : Hp} {M : AS} {ds : List D} {xs : List V} {i : Int} {d : D} (r : RepL K H M ds xs) (e : atI ds i = some d) : ∃ x, atI xs i = some x ∧ Rep K H M d x := by
  unfold atI at e ⊢
  rw [r.length] at e
  cases h : ixN xs.length i with
  | none => rw [h] at e; cases e
  | some j =>
    rw [h] at e
    exact r.get e
theorem s_ix : OpS K (rOr (rIxL K) (rIxT K)) ixD := by
  intro M x y H p q z Q rp rq hM e k
  unfold ixD at e
  split at e
  · obtain ⟨a, xs, rfl, h, r⟩ := rp
    obtain ⟨w, e1, e2⟩ := atI_rep r e
    exact .inl ⟨a, xs, _, w, rfl, rq.int, h, e1, k _ _ Stp.refl e2⟩
  · obtain ⟨a, xs, rfl, h, r, _⟩ := rp
    obtain ⟨w, e1, e2⟩ := atI_rep r e
    exact .inr ⟨a, xs, _, w, rfl, rq.int, Rd.t h, e1, k _ _ Stp.refl e2⟩
  · cases e
/-- a call on values is what f says -/
def CaS (K : PySem.W.Frag) (r : List V → Hp → VK → Prop) (f : List D → Option D) : Prop := ∀ (M : AS) (xs : List V) (H : Hp) (ps : List D) (z : D) (Q : VK), Paired (RepT K H M) ps xs → (∀ a, H a = none → ¬ M a) → f ps = some z →
  (∀ v H', Stp NoA H H' → Rep K H' M z v → Q v H') → r xs H Q
theorem intsD_of : ∀ {ds : List D} {ns : List Int}, intsD ds = some ns → ds = ns.map D.int
  | [], ns, h => by unfold intsD at h; cases h; rfl
  | d :: ds, ns, h => by
    cases d with
    | int i =>
      unfold intsD at h
      cases e : intsD ds with
      | none => rw [e] at h; cases h
      | some ms => rw [e] at h; cases h; rw [intsD_of e]; rfl
    | _ => unfold intsD at h; cases h
theorem boolsD_of : ∀ {ds : List D} {ns : List Bool}, boolsD ds = some ns → ds = ns.map D.bl
  | [], ns, h => by unfold boolsD at h; cases h; rfl
  | d :: ds, ns, h => by
    cases d with
    | bl i =>
      unfold boolsD at h
      cases e : boolsD ds with
      | none => rw [e] at h; cases h
      | some ms => rw [e] at h; cases h; rw [boolsD_of e]; rfl
    | _ => unfold boolsD at h; cases h
theorem s_len : CaS K (fun xs H Q => ∃ x n, xs = [x] ∧ LenV K x H n ∧ Q (.int n) H) (bltD .len) := by
  intro M xs H ps z Q r hM e k
  have hs : sizeLine = 16777216 := sizeLine_eq
  cases r with
  | nil => cases e
  | cons r1 r2 =>
    rename_i d ds x xs'
    cases r2 with
    | cons a b => cases d <;> cases e
    | nil =>
      cases d with
      | lst es =>
        cases e
        obtain ⟨a, ys, rfl, h, rr⟩ := r1
        exact ⟨_, _, rfl, .inl ⟨ys, h, rfl⟩, by rw [← rr.length]; exact k _ _ Stp.refl (rep_int _)⟩
      | tup es =>
        cases e
        obtain ⟨a, ys, rfl, h, rr, _⟩ := r1
        exact ⟨_, _, rfl, .inr ⟨ys, Rd.t h, rfl⟩, by rw [← rr.length]; exact k _ _ Stp.refl (rep_int _)⟩
      | str s =>
        have e' : (if s.length ≤ 1000000 then some (D.int s.length) else none) = some z := e
        by_cases hl : s.length ≤ 1000000
        · rw [if_pos hl] at e'; cases e'
          rw [r1.str]
          exact ⟨_, _, rfl, ⟨by omega, rfl⟩, k _ _ Stp.refl (rep_int _)⟩
        · rw [if_neg hl] at e'; cases e'
      | _ => cases e
end
end Mp
set_option maxHeartbeats 4000000
namespace Mp
open PySem L2
variable [TabsW]
section
variable {K : PySem.W.Frag}
theorem one_of {H : Hp} {M : AS} {ps : List D} {xs : List V} {f : List D → Option D} {z : D} (r : Paired (RepT K H M) ps xs) (e : f ps = some z) (h0 : f [] = none) (h2 : ∀ a b c, f (a :: b :: c) = none) : ∃ d x, ps = [d] ∧ xs = [x] ∧ RepT K H M d x := by
  cases r with
  | nil => rw [h0] at e; cases e
  | cons r1 r2 =>
    cases r2 with
    | nil => exact ⟨_, _, rfl, rfl, r1⟩
    | cons a b => rw [h2] at e; cases e
theorem two_of {H : Hp} {M : AS} {ps : List D} {xs : List V} {f : List D → Option D} {z : D} (r : Paired (RepT K H M) ps xs) (e : f ps = some z) (h0 : f [] = none) (h1 : ∀ a, f [a] = none) (h3 : ∀ a b c d, f (a :: b :: c :: d) = none) :
    ∃ d x d' x', ps = [d, d'] ∧ xs = [x, x'] ∧ RepT K H M d x ∧ RepT K H M d' x' := by
  cases r with
  | nil => rw [h0] at e; cases e
  | cons r1 r2 =>
    cases r2 with
    | nil => rw [h1] at e; cases e
    | cons a b =>
      cases b with
      | nil => exact ⟨_, _, _, _, rfl, rfl, r1, a⟩
      | cons c d => rw [h3] at e; cases e
theorem s_int : CaS K (fun xs H Q => (∃ i, xs = [.int i] ∧ Q (.int i) H) ∨ ∃ k, xs = [.bl k] ∧ Q (.int (if k then 1 else 0)) H) (bltD .int) := by
  intro M xs H ps z Q r hM e k
  obtain ⟨d, x, rfl, rfl, rd⟩ := one_of r e rfl (fun a b c => by cases a <;> rfl)
  cases d <;> first | (cases e; done) | skip
  · cases e; rw [rd.bl]; exact .inr ⟨_, rfl, k _ _ Stp.refl (rep_int _)⟩
  · cases e; rw [rd.int]; exact .inl ⟨_, rfl, k _ _ Stp.refl (rep_int _)⟩
theorem s_max2 : CaS K (fun xs H Q => ∃ i j, xs = [.int i, .int j] ∧ Q (.int (if j > i then j else i)) H) (bltD .max2) := by
  intro M xs H ps z Q r hM e k
  obtain ⟨d, x, d', x', rfl, rfl, rd, rd'⟩ := two_of r e rfl (fun a => by cases a <;> rfl) (fun a b c d => by cases a <;> cases b <;> rfl)
  cases d <;> cases d' <;> first | (cases e; done) | skip
  cases e; rw [rd.int, rd'.int]; exact ⟨_, _, rfl, k _ _ Stp.refl (rep_int _)⟩
theorem s_min2 : CaS K (fun xs H Q => ∃ i j, xs = [.int i, .int j] ∧ Q (.int (if j < i then j else i)) H) (bltD .min2) := by
  intro M xs H ps z Q r hM e k
  obtain ⟨d, x, d', x', rfl, rfl, rd, rd'⟩ := two_of r e rfl (fun a => by cases a <;> rfl) (fun a b c d => by cases a <;> cases b <;> rfl)
  cases d <;> cases d' <;> first | (cases e; done) | skip
  cases e; rw [rd.int, rd'.int]; exact ⟨_, _, rfl, k _ _ Stp.refl (rep_int _)⟩
theorem sortI_eq {ns ms : List Int} (p : ms.Perm ns) (h : ms.Pairwise (· ≤ ·)) : ms = sortI ns := by
  have h2 : (sortI ns).Pairwise (· ≤ ·) := by
    have := List.pairwise_mergeSort (le := fun (a b : Int) => decide (a ≤ b)) (by intro a b c; simp; omega) (by intro a b; simp; omega) ns
    simpa [sortI] using this
  have p2 : (sortI ns).Perm ns := List.mergeSort_perm ns _
  exact List.Perm.eq_of_pairwise (fun a b _ _ h1 h2 => Int.le_antisymm h1 h2) h h2 (p.trans p2.symm)
theorem s_sorted : CaS K (rSortedI K) (bltD .sorted) := by
  intro M xs H ps z Q r hM e k
  obtain ⟨d, x, rfl, rfl, rd⟩ := one_of r e rfl (fun a b c => by cases a <;> rfl)
  cases d <;> first | (cases e; done) | skip
  rename_i ds
  have e' : (intsD ds).map (fun ns => D.lst ((sortI ns).map .int)) = some z := e
  cases h : intsD ds with
  | none => rw [h] at e'; cases e'
  | some ns =>
    rw [h] at e'; cases e'
    have := intsD_of h
    subst this
    obtain ⟨a, ys, rfl, hr, rr⟩ := rd
    have := rr.ints
    subst this
    refine ⟨a, ns, rfl, hr, fun ns' p hp hs hn => ?_⟩
    rw [sortI_eq hp hs]
    exact k _ _ (Stp.new hn) (rep_new hn (hM p hn) (RepL.of_ints _))
theorem s_list : CaS K (fun xs H Q => ∃ p ys, xs = [.ref p] ∧ (SqL K H p ys ∨ SqT K H p ys) ∧ ∀ l, H l = none → Q (.ref l) (upd H l (.lst ys))) (bltD .list) := by
  intro M xs H ps z Q r hM e k
  obtain ⟨d, x, rfl, rfl, rd⟩ := one_of r e rfl (fun a b c => by cases a <;> rfl)
  cases d <;> first | (cases e; done) | skip
  · cases e
    obtain ⟨a, ys, rfl, hr, rr⟩ := rd
    exact ⟨a, ys, rfl, .inl (hr), fun l hl => k _ _ (Stp.new hl) (rep_new hl (hM l hl) rr)⟩
  · cases e
    obtain ⟨a, ys, rfl, hr, rr, _⟩ := rd
    exact ⟨a, ys, rfl, .inr (Rd.t hr), fun l hl => k _ _ (Stp.new hl) (rep_new hl (hM l hl) rr)⟩
theorem s_tuple : CaS K (fun xs H Q => ∃ p ys, xs = [.ref p] ∧ ((SqL K H p ys ∧ ∀ l, H l = none → Q (.ref l) (upd H l (.tup ys))) ∨ (SqT K H p ys ∧ Q (.ref p) H))) (bltD .tuple) := by
  intro M xs H ps z Q r hM e k
  obtain ⟨d, x, rfl, rfl, rd⟩ := one_of r e rfl (fun a b c => by cases a <;> rfl)
  cases d <;> first | (cases e; done) | skip
  · cases e
    obtain ⟨a, ys, rfl, hr, rr⟩ := rd
    exact ⟨a, ys, rfl, .inl ⟨hr, fun l hl => k _ _ (Stp.new hl) (rep_newT hl (hM l hl) rr)⟩⟩
  · cases e
    obtain ⟨a, ys, rfl, hr, rr, n⟩ := rd
    exact ⟨a, ys, rfl, .inr ⟨Rd.t hr, k _ _ Stp.refl (by unfold Rep; exact ⟨a, ys, rfl, n, hr, rr⟩)⟩⟩
theorem s_all : CaS K (rAll K) (bltD .all) := by
  intro M xs H ps z Q r hM e k
  obtain ⟨d, x, rfl, rfl, rd⟩ := one_of r e rfl (fun a b c => by cases a <;> rfl)
  cases d <;> first | (cases e; done) | skip
  rename_i ds
  have e' : (boolsD ds).map (fun bs => D.bl (bs.all id)) = some z := e
  cases h : boolsD ds with
  | none => rw [h] at e'; cases e'
  | some ns =>
    rw [h] at e'; cases e'
    have := boolsD_of h
    subst this
    obtain ⟨a, ys, rfl, hr, rr⟩ := rd
    have := rr.bools
    subst this
    exact ⟨a, ns, rfl, hr, k _ _ Stp.refl (rep_bl _)⟩
end
end Mp
set_option maxHeartbeats 4000000
namespace Mp
open PySem L2
variable [TabsW]
def IoA (io : Option Nat) (vs : List V) : AS := fun a => ∃ i, io = some i ∧ vs[i]? = some (.ref a)
def ArgR (K : PySem.W.Frag) (H : Hp) (M : AS) (io : Option Nat) (ds : List D) (vs : List V) : Prop := ds.length = vs.length ∧ ∀ (i : Nat) (d : D) (v : V), ds[i]? = some d → vs[i]? = some v →
  (io ≠ some i → Rep K H M d v) ∧ (io = some i → ∃ a xs es, d = .lst es ∧ v = .ref a ∧ M a ∧ H a = some (.lst xs) ∧ RepL K H M es xs)
def OutR (K : PySem.W.Frag) (H : Hp) (M : AS) (io : Option Nat) (out : List D) (vs : List V) : Prop := ∀ i, io = some i → ∃ a xs, vs[i]? = some (.ref a) ∧ H a = some (.lst xs) ∧ RepL K H M out xs
/-- what a def with the sense F promises: n arguments, the one at io is changed -/
def spF (K : PySem.W.Frag) (n : Nat) (io : Option Nat) (F : List D → FR) : Sp := fun vs H Q E => vs.length = n ∧ ∃ (M : AS) (ds : List D), MOk M H ∧ ArgR K H M io ds vs ∧
  (match F ds with
   | .ok d out => ∀ v H', Stp (IoA io vs) H H' → OutR K H' M io out vs → Rep K H' M d v → Q v H'
   | .exc C f d out => ∀ dd v H', Stp (IoA io vs) H H' → OutR K H' M io out vs → H' dd = some (.xd [(f, v)]) → Rep K H' M d v → E (.ref (clsAt K C)) (some dd) H'
   | .bad => False)
section
variable {K : PySem.W.Frag} {H0 H H' : Hp} {M0 A : AS} {env env' : Env} {σ : L2.St}
theorem EnvR.setOwn (E : EnvR K H0 M0 A env σ H) {i : Nat} {ds out : List D} {a : Addr} {ys : List V} (hc : env[i]? = some (some (Cell.own ds))) (ha : σ[i]? = some (some (V.ref a))) (s : Stp (fun x => x = a) H H') (h' : H' a = some (.lst ys))
    (r : RepL K H' (MM M0 env σ) out ys) : EnvR K H0 M0 A (env.set i (some (Cell.own out))) σ H' ∧ Sub σ env (env.set i (some (Cell.own out))) ∧ MM M0 (env.set i (some (Cell.own out))) σ = MM M0 env σ := by
  have hi : i < env.length := (List.getElem?_eq_some_iff.mp hc).1
  obtain ⟨a', xs, sa, q, l, nm, h0⟩ := E.own i ds hc
  rw [ha] at sa; cases sa
  have mutI : ∀ b, MutAt (env.set i (some (Cell.own out))) σ b ↔ MutAt env σ b := fun b => by
    constructor
    · rintro ⟨j, es, e1, e2⟩
      by_cases hj : i = j
      · subst hj; exact ⟨i, ds, hc, e2⟩
      · rw [List.getElem?_set_ne hj] at e1; exact ⟨j, es, e1, e2⟩
    · rintro ⟨j, es, e1, e2⟩
      by_cases hj : i = j
      · subst hj; exact ⟨i, out, List.getElem?_set_self hi, e2⟩
      · exact ⟨j, es, by rw [List.getElem?_set_ne hj]; exact e1, e2⟩
  have eM : MM M0 (env.set i (some (Cell.own out))) σ = MM M0 env σ := by
    funext b
    exact propext ⟨fun z => z.elim .inl fun q => .inr ((mutI b).mp q), fun z => z.elim .inl fun q => .inr ((mutI b).mpr q)⟩
  have Ma : MM M0 env σ a := .inr ⟨i, ds, hc, ha⟩
  have st : Stp (MM M0 env σ) H H' := s.weak fun x e => e ▸ Ma
  have other : ∀ {j c}, (env.set i (some (Cell.own out)))[j]? = some (some c) → (i = j ∧ c = .own out) ∨ (i ≠ j ∧ env[j]? = some (some c)) := fun {j c} e1 => by
    by_cases hj : i = j
    · subst hj; rw [List.getElem?_set_self hi] at e1; cases e1; exact .inl ⟨rfl, rfl⟩
    · rw [List.getElem?_set_ne hj] at e1; exact .inr ⟨hj, e1⟩
  refine ⟨⟨by rw [List.length_set]; exact E.len, fun b o e n t => ?_, fun b h => s.mo b (E.alive b h), fun P q h => s.tb P q h (E.tb P q h), fun b hb => s.mo b (E.m0 b hb), E.aM, E.a1, fun j d' e1 => ?_, fun j es e1 => ?_, fun j es e1 => ?_, fun j k b es fs e1 e2 e3 e4 => ?_, fun j k es fs e1 e2 => ?_, fun j C ns es e1 => ?_⟩, ⟨fun b z => (mutI b).mp z, fun j c e1 => ?_, fun j es e1 => ?_, List.length_set⟩, eM⟩
  · exact s.st b o (E.old b o e n t) (fun z => h0 ⟨o, by rw [← z]; exact e, t⟩) t
  · rw [eM]
    rcases other e1 with ⟨rfl, e⟩ | ⟨_, e1⟩
    · cases e
    · obtain ⟨v, a1, a2⟩ := E.dat j d' e1
      exact ⟨v, a1, Rep.stp st (fun _ z => z) d' v a2⟩
  · rw [eM]
    rcases other e1 with ⟨rfl, e⟩ | ⟨hj, e1⟩
    · cases e; exact ⟨a, ys, ha, h', r, nm, h0⟩
    · obtain ⟨b, zs, a1, a2, a3, a4⟩ := E.own j es e1
      exact ⟨b, zs, a1, s.st b _ a2 (fun z => by subst z; exact hj (E.inj i j b ds es hc e1 ha a1)) nt_lst, RepL.stp st (fun _ z => z) es zs a3, a4⟩
  · rw [eM]
    rcases other e1 with ⟨rfl, e⟩ | ⟨hj, e1⟩
    · cases e
    · obtain ⟨b, zs, a1, a2, a3, a4⟩ := E.io j es e1
      exact ⟨b, zs, a1, a2, s.st b _ a3 (fun z => by subst z; exact nm (E.aM b a2)) nt_lst, RepL.stp st (fun _ z => z) es zs a4⟩
  · rcases other e1 with ⟨rfl, e⟩ | ⟨_, e1⟩
    · rcases other e2 with ⟨rfl, _⟩ | ⟨_, e2⟩
      · rfl
      · exact E.inj i k b ds fs hc e2 e3 e4
    · rcases other e2 with ⟨rfl, e⟩ | ⟨_, e2⟩
      · exact E.inj j i b es ds e1 hc e3 e4
      · exact E.inj j k b es fs e1 e2 e3 e4
  · rcases other e1 with ⟨rfl, e⟩ | ⟨_, e1⟩
    · cases e
    · rcases other e2 with ⟨rfl, e⟩ | ⟨_, e2⟩
      · cases e
      · exact E.io1 j k es fs e1 e2
  · rcases other e1 with ⟨rfl, e⟩ | ⟨_, e1⟩
    · cases e
    · exact E.slf j C ns es e1
  · by_cases hj : i = j
    · subst hj; exact ⟨_, List.getElem?_set_self hi⟩
    · exact ⟨c, by rw [List.getElem?_set_ne hj]; exact e1⟩
  · rcases other e1 with ⟨rfl, e⟩ | ⟨_, e1⟩
    · cases e
    · exact ⟨es, e1⟩
theorem EnvR.setIo (E : EnvR K H0 M0 A env σ H) {i : Nat} {ds out : List D} {a : Addr} {ys : List V} (hc : env[i]? = some (some (Cell.io ds))) (ha : σ[i]? = some (some (V.ref a))) (s : Stp (fun x => x = a) H H') (h' : H' a = some (.lst ys))
    (r : RepL K H' (MM M0 env σ) out ys) : EnvR K H0 M0 A (env.set i (some (Cell.io out))) σ H' ∧ Sub σ env (env.set i (some (Cell.io out))) ∧ MM M0 (env.set i (some (Cell.io out))) σ = MM M0 env σ := by
  have hi : i < env.length := (List.getElem?_eq_some_iff.mp hc).1
  obtain ⟨a', xs, sa, Aa, q, l⟩ := E.io i ds hc
  rw [ha] at sa; cases sa
  have mutI : ∀ b, MutAt (env.set i (some (Cell.io out))) σ b ↔ MutAt env σ b := fun b => by
    constructor
    · rintro ⟨j, es, e1, e2⟩
      by_cases hj : i = j
      · subst hj; rw [List.getElem?_set_self hi] at e1; cases e1
      · rw [List.getElem?_set_ne hj] at e1; exact ⟨j, es, e1, e2⟩
    · rintro ⟨j, es, e1, e2⟩
      by_cases hj : i = j
      · subst hj; rw [hc] at e1; cases e1
      · exact ⟨j, es, by rw [List.getElem?_set_ne hj]; exact e1, e2⟩
  have eM : MM M0 (env.set i (some (Cell.io out))) σ = MM M0 env σ := by
    funext b
    exact propext ⟨fun z => z.elim .inl fun q => .inr ((mutI b).mp q), fun z => z.elim .inl fun q => .inr ((mutI b).mpr q)⟩
  have Ma : MM M0 env σ a := .inl (E.aM a Aa)
  have st : Stp (MM M0 env σ) H H' := s.weak fun x e => e ▸ Ma
  have other : ∀ {j c}, (env.set i (some (Cell.io out)))[j]? = some (some c) → (i = j ∧ c = .io out) ∨ (i ≠ j ∧ env[j]? = some (some c)) := fun {j c} e1 => by
    by_cases hj : i = j
    · subst hj; rw [List.getElem?_set_self hi] at e1; cases e1; exact .inl ⟨rfl, rfl⟩
    · rw [List.getElem?_set_ne hj] at e1; exact .inr ⟨hj, e1⟩
  refine ⟨⟨by rw [List.length_set]; exact E.len, fun b o e n t => ?_, fun b h => s.mo b (E.alive b h), fun P q h => s.tb P q h (E.tb P q h), fun b hb => s.mo b (E.m0 b hb), E.aM, E.a1, fun j d' e1 => ?_, fun j es e1 => ?_, fun j es e1 => ?_, fun j k b es fs e1 e2 e3 e4 => ?_, fun j k es fs e1 e2 => ?_, fun j C ns es e1 => ?_⟩, ⟨fun b z => (mutI b).mp z, fun j c e1 => ?_, fun j es e1 => ?_, List.length_set⟩, eM⟩
  · exact s.st b o (E.old b o e n t) (fun z => n (z ▸ Aa)) t
  · rw [eM]
    rcases other e1 with ⟨rfl, e⟩ | ⟨_, e1⟩
    · cases e
    · obtain ⟨v, a1, a2⟩ := E.dat j d' e1
      exact ⟨v, a1, Rep.stp st (fun _ z => z) d' v a2⟩
  · rw [eM]
    rcases other e1 with ⟨rfl, e⟩ | ⟨hj, e1⟩
    · cases e
    · obtain ⟨b, zs, a1, a2, a3, a4, a5⟩ := E.own j es e1
      exact ⟨b, zs, a1, s.st b _ a2 (fun z => by subst z; exact a4 (E.aM b Aa)) nt_lst, RepL.stp st (fun _ z => z) es zs a3, a4, a5⟩
  · rw [eM]
    rcases other e1 with ⟨rfl, e⟩ | ⟨hj, e1⟩
    · cases e; exact ⟨a, ys, ha, Aa, h', r⟩
    · exact absurd (E.io1 i j ds es hc e1) hj
  · rcases other e1 with ⟨rfl, e⟩ | ⟨_, e1⟩
    · cases e
    · rcases other e2 with ⟨rfl, e⟩ | ⟨_, e2⟩
      · cases e
      · exact E.inj j k b es fs e1 e2 e3 e4
  · rcases other e1 with ⟨rfl, e⟩ | ⟨_, e1⟩
    · rcases other e2 with ⟨rfl, _⟩ | ⟨_, e2⟩
      · rfl
      · exact E.io1 i k ds fs hc e2
    · rcases other e2 with ⟨rfl, e⟩ | ⟨_, e2⟩
      · exact E.io1 j i es ds e1 hc
      · exact E.io1 j k es fs e1 e2
  · rcases other e1 with ⟨rfl, e⟩ | ⟨_, e1⟩
    · cases e
    · exact E.slf j C ns es e1
  · by_cases hj : i = j
    · subst hj; exact ⟨_, List.getElem?_set_self hi⟩
    · exact ⟨c, by rw [List.getElem?_set_ne hj]; exact e1⟩
  · rcases other e1 with ⟨rfl, e⟩ | ⟨_, e1⟩
    · exact ⟨ds, hc⟩
    · exact ⟨es, e1⟩
end
variable (G : Ctx) (W : WX) (K : PySem.W.Frag)
def tI (i : IR) : TE := fun σ H Q => ∃ H0 M0 A env, EnvR K H0 M0 A env σ H ∧ Sat K H0 M0 A W (ev G i env) env σ H fun o e1 H1 => ∀ v, OpdR K M0 e1 σ H1 o v → Q v H1
def tIt (i : IR) : TT := fun σ H Q => ∃ H0 M0 A env, EnvR K H0 M0 A env σ H ∧ Sat K H0 M0 A W (truR (ev G i env)) env σ H fun b e1 H1 => Q b H1
def tIs (is : List IR) : TA := fun σ H Q => ∃ H0 M0 A env, EnvR K H0 M0 A env σ H ∧ Sat K H0 M0 A W (evs G is env) env σ H fun ds e1 H1 => ∀ vs, RepL K H1 (MM M0 e1 σ) ds vs → Q vs H1
def tIr (is : List IR) : TA := fun σ H Q => ∃ H0 M0 A env, EnvR K H0 M0 A env σ H ∧ Sat K H0 M0 A W (evr G is env) env σ H fun os e1 H1 => ∀ vs, Paired (OpdR K M0 e1 σ H1) os vs → Q vs H1
def tIa (io : Option Nat) (n : Nat) (is : List IR) : TA := fun σ H Q => ∃ H0 M0 A env, EnvR K H0 M0 A env σ H ∧ Sat K H0 M0 A W (eva G io n is env) env σ H fun p e1 H1 => ∀ vs, Paired (OpdR K M0 e1 σ H1) p.1 vs → Q vs H1
end Mp
set_option maxHeartbeats 4000000
namespace Mp
open PySem L2
variable [TabsW]
section
variable {X : Cx} {G : Ctx} {W : WX}
theorem PE.by_ {e : Expr} {t t' : TE} (h : PE X e t) (i : ∀ σ H Q, t' σ H Q → t σ H Q) : PE X e t' := ⟨fun pins s σ H Q I q => h.run pins s σ H Q I (i σ H Q q)⟩
theorem PT.by_ {e : Expr} {t t' : TT} (h : PT X e t) (i : ∀ σ H Q, t' σ H Q → t σ H Q) : PT X e t' := ⟨fun pins s σ H Q I q => h.run pins s σ H Q I (i σ H Q q)⟩
theorem PW.by_ {e : Expr} {t t' : TT} (h : PW X e t) (i : ∀ σ H Q, t' σ H Q → t σ H Q) : PW X e t' := ⟨fun wh pins s σ H Q I q => h.run wh pins s σ H Q I (i σ H Q q)⟩
theorem PA.by_ {e : List Expr} {t t' : TA} (h : PA X e t) (i : ∀ σ H Q, t' σ H Q → t σ H Q) : PA X e t' := ⟨fun pos pins s σ H Q I q => h.run pos pins s σ H Q I (i σ H Q q)⟩
theorem Stp.no {M : AS} {H H' : Hp} (s : Stp NoA H H') : Stp M H H' := s.weak fun _ z => z.elim
/-- a constant -/
theorem e_c {e : Expr} {d : D} {v : V} (h : PE X e (tC v)) (r : ∀ H M, Rep X.K H M d v) : PE X e (tI G W X.K (.c d)) := PE.by_ h fun σ H Q q => by
  obtain ⟨H0, M0, A, env, E, q⟩ := q
  unfold ev at q
  exact q H Stp.refl Sub.refl E v (r H _)
theorem e_v {x : Str} {pos : Pos} {i : Nat} (hN : X.N[i]? = some x) (hv : Vis X.env.scope x) (hd : (x == ("__debug__" : Str)) = false) (hcd : (x == ("__classdict__" : Str)) = false) : PE X (.Name x pos) (tI G W X.K (.v i)) := PE.by_ (pe_var hN hv hd hcd) fun σ H Q q => by
  obtain ⟨H0, M0, A, env, E, q⟩ := q
  unfold ev at q
  cases e : env[i]? with
  | none =>
    have : cellAt env i = none := by unfold cellAt; rw [e]; rfl
    rw [this] at q
    exact q.elim
  | some o =>
    have hc : cellAt env i = o := by unfold cellAt; rw [e]; rfl
    rw [hc] at q
    cases o with
    | none => exact q.elim
    | some c =>
      cases c with
      | dat d =>
        obtain ⟨v, s, r⟩ := E.dat i d e
        exact ⟨v, s, q H Stp.refl Sub.refl E v r⟩
      | own ds =>
        obtain ⟨a, xs, s, r⟩ := E.own i ds e
        exact ⟨_, s, q H Stp.refl Sub.refl E _ ⟨s, _, e⟩⟩
      | io ds =>
        obtain ⟨a, xs, s, r⟩ := E.io i ds e
        exact ⟨_, s, q H Stp.refl Sub.refl E _ ⟨s, _, e⟩⟩
      | slf C ns ds => exact q.elim
/-- behind the operands of a two-place operation -/
theorem op_end {K : PySem.W.Frag} {H0 H : Hp} {M0 A : AS} {env : Env} {σ : L2.St} {Q : VK} {r : R2} {f : D → D → Option D} {x y : V} {o o2 : Opd} (hs : OpS K r f) (E : EnvR K H0 M0 A env σ H) (hx : OpdR K M0 env σ H o x) (hy : OpdR K M0 env σ H o2 y)
    (h : Sat K H0 M0 A W (match rdO env o, rdO env o2 with
      | some p, some q => lift env (f p q)
      | _, _ => .bad) env σ H fun o e1 H1 => ∀ v, OpdR K M0 e1 σ H1 o v → Q v H1) : r x y H Q := by
  cases e1 : rdO env o with
  | none => rw [e1] at h; exact h.elim
  | some p =>
    cases e2 : rdO env o2 with
    | none => rw [e1, e2] at h; exact h.elim
    | some q =>
      rw [e1, e2] at h
      cases e3 : f p q with
      | none =>
        dsimp only at h
        rw [e3] at h
        exact h.elim
      | some z =>
        dsimp only at h
        rw [e3] at h
        exact hs (MM M0 env σ) x y H p q z Q (hx.rdT E e1) (hy.rdT E e2) (fun a ha => (E.fresh ha).1) e3 fun v H' st rv => h H' st.no Sub.refl (E.keep st) v rv
theorem op_read {K : PySem.W.Frag} {a b : IR} {i : IR} {r : R2} {f : D → D → Option D} (hs : OpS K r f)
    (he : ∀ env, ev G i env = (ev G a env).bind fun x e1 => (ev G b e1).bind fun y e2 => match rdO e2 x, rdO e2 y with
      | some p, some q => lift e2 (f p q)
      | _, _ => .bad) {σ : L2.St} {H : Hp} {Q : VK} (q : tI G W K i σ H Q) : tOp r (tI G W K a) (tI G W K b) σ H Q := by
  obtain ⟨H0, M0, A, env, E, q⟩ := q
  rw [he] at q
  refine ⟨H0, M0, A, env, E, (Sat.bind q).mono fun o e1 H1 _ s1 u1 E1 h1 x hx => ?_⟩
  refine ⟨H0, M0, A, e1, E1, (Sat.bind h1).mono fun o2 e2 H2 _ s2 u2 E2 h2 y hy => ?_⟩
  exact op_end hs E2 (hx.hold E1.aM s2 u2) hy h2
theorem e_op {e : Expr} {a b : IR} {i : IR} {r : R2} {f : D → D → Option D} {ta tb : TE} (h : PE X e (tOp r (tI G W X.K a) (tI G W X.K b))) (hs : OpS X.K r f)
    (he : ∀ env, ev G i env = (ev G a env).bind fun x e1 => (ev G b e1).bind fun y e2 => match rdO e2 x, rdO e2 y with
      | some p, some q => lift e2 (f p q)
      | _, _ => .bad) : PE X e (tI G W X.K i) := PE.by_ h fun σ H Q q => op_read hs he q
theorem e_bin {a b : Expr} {op : Operator} {op' : BOp} {a' b' : IR} {r : R2} {pos : Pos} (ho : OpR X (binaryOp op) r) (hs : OpS X.K r (binD op')) (ha : PE X a (tI G W X.K a')) (hb : PE X b (tI G W X.K b')) : PE X (.BinOp a op b pos) (tI G W X.K (.bin op' a' b')) :=
  e_op (ta := tI G W X.K a') (tb := tI G W X.K b') (pe_op ho ha hb) hs fun env => by first | (rw [ev]; done) | (rw [ev]; rfl)
theorem e_cmp {a b : Expr} {op : CmpOp} {op' : COp} {a' b' : IR} {r : R2} {pos : Pos} (ho : OpR X (compareOp op) r) (hs : CmS X.K r op') (ha : PE X a (tI G W X.K a')) (hb : PE X b (tI G W X.K b')) (hm : behindInMarks op b = false) : PE X (.Compare a [op] [b] pos) (tI G W X.K (.cmp op' a' b')) :=
  e_op (ta := tI G W X.K a') (tb := tI G W X.K b') (pe_cmpR ho ha hb hm) hs fun env => by first | (rw [ev]; done) | (rw [ev]; rfl)
theorem e_ix {a b : Expr} {a' b' : IR} {pos : Pos} (ha : PE X a (tI G W X.K a')) (hb : PE X b (tI G W X.K b')) (hp : PlainIx b) : PE X (.Subscript a b pos) (tI G W X.K (.ix a' b')) :=
  e_op (ta := tI G W X.K a') (tb := tI G W X.K b') (pe_ix (r := rOr (rIxL X.K) (rIxT X.K)) (ix_list.or ix_tup) ha hb hp) s_ix fun env => by first | (rw [ev]; done) | (rw [ev]; rfl)
/-- a value tested -/
theorem tru_end {K : PySem.W.Frag} {H0 H : Hp} {M0 A : AS} {env : Env} {σ : L2.St} {o : Opd} {x : V} {b : Bool} (E : EnvR K H0 M0 A env σ H) (hx : OpdR K M0 env σ H o x) (h : (rdO env o).bind truD = some b) : TruV K x H b := by
  cases e1 : rdO env o with
  | none => rw [e1] at h; cases h
  | some p =>
    rw [e1] at h
    exact truV_of (hx.rdT E e1).loose h
theorem e_and {a b : Expr} {rest : List Expr} {a' b' : IR} {pos : Pos} (ha : PE X a (tI G W X.K a')) (hb : PE X (.BoolOp .And (b :: rest) pos) (tI G W X.K b')) : PE X (.BoolOp .And (a :: b :: rest) pos) (tI G W X.K (.and_ a' b')) := PE.by_ (pe_andT ha hb) fun σ H Q q => by
  obtain ⟨H0, M0, A, env, E, q⟩ := q
  unfold ev at q
  refine ⟨H0, M0, A, env, E, (Sat.bind q).mono fun o e1 H1 _ s1 u1 E1 h1 x hx => ?_⟩
  cases e : (rdO e1 o).bind truD with
  | none => rw [e] at h1; exact h1.elim
  | some k =>
    rw [e] at h1
    refine ⟨k, tru_end E1 hx e, ?_⟩
    cases k with
    | true => exact ⟨H0, M0, A, e1, E1, h1⟩
    | false => exact h1 H1 Stp.refl Sub.refl E1 x hx
theorem e_or {a b : Expr} {rest : List Expr} {a' b' : IR} {pos : Pos} (ha : PE X a (tI G W X.K a')) (hb : PE X (.BoolOp .Or (b :: rest) pos) (tI G W X.K b')) : PE X (.BoolOp .Or (a :: b :: rest) pos) (tI G W X.K (.or_ a' b')) := PE.by_ (pe_orT ha hb) fun σ H Q q => by
  obtain ⟨H0, M0, A, env, E, q⟩ := q
  unfold ev at q
  refine ⟨H0, M0, A, env, E, (Sat.bind q).mono fun o e1 H1 _ s1 u1 E1 h1 x hx => ?_⟩
  cases e : (rdO e1 o).bind truD with
  | none => rw [e] at h1; exact h1.elim
  | some k =>
    rw [e] at h1
    refine ⟨k, tru_end E1 hx e, ?_⟩
    cases k with
    | false => exact ⟨H0, M0, A, e1, E1, h1⟩
    | true => exact h1 H1 Stp.refl Sub.refl E1 x hx
theorem e_not {a : Expr} {a' : IR} {pos : Pos} (ha : PE X a (tI G W X.K a')) : PE X (.UnaryOp .Not a pos) (tI G W X.K (.not_ a')) := PE.by_ (pe_notT ha) fun σ H Q q => by
  obtain ⟨H0, M0, A, env, E, q⟩ := q
  unfold ev at q
  refine ⟨H0, M0, A, env, E, (Sat.bind q).mono fun o e1 H1 _ s1 u1 E1 h1 x hx => ?_⟩
  cases e : (rdO e1 o).bind truD with
  | none => rw [e] at h1; exact h1.elim
  | some k =>
    rw [e] at h1
    exact ⟨k, tru_end E1 hx e, h1 H1 Stp.refl Sub.refl E1 _ (rep_bl (K := X.K) (H := H1) (M := MM M0 e1 σ) _)⟩
theorem e_neg {a : Expr} {a' : IR} {pos : Pos} (ha : PE X a (tI G W X.K a')) : PE X (.UnaryOp .USub a pos) (tI G W X.K (.neg a')) := PE.by_ (pe_un un_neg ha) fun σ H Q q => by
  obtain ⟨H0, M0, A, env, E, q⟩ := q
  unfold ev at q
  refine ⟨H0, M0, A, env, E, (Sat.bind q).mono fun o e1 H1 _ s1 u1 E1 h1 x hx => ?_⟩
  cases o with
  | pl i => exact h1.elim
  | val d =>
    cases d with
    | int i =>
      have hx' : Rep X.K H1 (MM M0 e1 σ) (.int i) x := hx
      unfold Rep at hx'
      exact ⟨i, hx', h1 H1 Stp.refl Sub.refl E1 _ (rep_int (K := X.K) (H := H1) (M := MM M0 e1 σ) _)⟩
    | _ => exact h1.elim
/-- tests -/
theorem t_truth {a : Expr} {a' : IR} (ha : PE X a (tI G W X.K a')) (he : ∀ whole, isTrue a X.env whole = (do let v ← whole; standAt a.pos; holding [v] (truthy v))) : PT X a (tIt G W X.K a') := PT.by_ (pt_truth ha he) fun σ H Q q => by
  obtain ⟨H0, M0, A, env, E, q⟩ := q
  unfold truR at q
  refine ⟨H0, M0, A, env, E, (Sat.bind q).mono fun o e1 H1 _ s1 u1 E1 h1 x hx => ?_⟩
  cases e : (rdO e1 o).bind truD with
  | none => rw [e] at h1; exact h1.elim
  | some k =>
    rw [e] at h1
    exact ⟨k, tru_end E1 hx e, h1 H1 Stp.refl Sub.refl E1⟩
end
end Mp
set_option maxHeartbeats 4000000
namespace Mp
open PySem L2
variable [TabsW]
theorem R.bind_assoc {α β γ : Type} (r : R α) (f : α → Env → R β) (g : β → Env → R γ) : (r.bind f).bind g = r.bind fun a e => (f a e).bind g := by cases r <;> rfl
theorem tru_not {G : Ctx} {a : IR} {env : Env} : truR (ev G (.not_ a) env) = (truR (ev G a env)).bind fun b e1 => .ok (!b) e1 := by
  rw [ev]
  unfold truR
  rw [R.bind_assoc, R.bind_assoc]
  congr 1
  funext x e1
  cases h : (rdO e1 x).bind truD <;> rfl
theorem tru_and {G : Ctx} {a b : IR} {env : Env} : truR (ev G (.and_ a b) env) = (truR (ev G a env)).bind fun c e1 => if c then truR (ev G b e1) else .ok false e1 := by
  rw [ev]
  unfold truR
  rw [R.bind_assoc, R.bind_assoc]
  congr 1
  funext x e1
  cases h : (rdO e1 x).bind truD with
  | none => rfl
  | some c =>
    cases c with
    | true => rfl
    | false =>
      show (match (rdO e1 x).bind truD with | some b => R.ok b e1 | none => R.bad) = _
      rw [h]; rfl
theorem tru_or {G : Ctx} {a b : IR} {env : Env} : truR (ev G (.or_ a b) env) = (truR (ev G a env)).bind fun c e1 => if c then .ok true e1 else truR (ev G b e1) := by
  rw [ev]
  unfold truR
  rw [R.bind_assoc, R.bind_assoc]
  congr 1
  funext x e1
  cases h : (rdO e1 x).bind truD with
  | none => rfl
  | some c =>
    cases c with
    | false => rfl
    | true =>
      show (match (rdO e1 x).bind truD with | some b => R.ok b e1 | none => R.bad) = _
      rw [h]; rfl
section
variable {X : Cx} {G : Ctx} {W : WX}
theorem t_not {a : Expr} {a' : IR} {pos : Pos} (ha : PT X a (tIt G W X.K a')) : PT X (.UnaryOp .Not a pos) (tIt G W X.K (.not_ a')) := PT.by_ (pt_not ha) fun σ H Q q => by
  obtain ⟨H0, M0, A, env, E, q⟩ := q
  rw [tru_not] at q
  exact ⟨H0, M0, A, env, E, (Sat.bind q).mono fun b e1 H1 _ s1 u1 E1 h1 => h1 H1 Stp.refl Sub.refl E1⟩
theorem w_and1 {a : Expr} {a' : IR} {pos : Pos} (ha : PT X a (tIt G W X.K a')) : PW X (.BoolOp .And [a] pos) (tIt G W X.K a') := pw_and1 ha
theorem w_or1 {a : Expr} {a' : IR} {pos : Pos} (ha : PT X a (tIt G W X.K a')) : PW X (.BoolOp .Or [a] pos) (tIt G W X.K a') := pw_or1 ha
theorem w_and {a b : Expr} {rest : List Expr} {a' b' : IR} {pos : Pos} (ha : PT X a (tIt G W X.K a')) (hb : PW X (.BoolOp .And (b :: rest) pos) (tIt G W X.K b')) : PW X (.BoolOp .And (a :: b :: rest) pos) (tIt G W X.K (.and_ a' b')) := PW.by_ (pw_and ha hb) fun σ H Q q => by
  obtain ⟨H0, M0, A, env, E, q⟩ := q
  rw [tru_and] at q
  refine ⟨H0, M0, A, env, E, (Sat.bind q).mono fun c e1 H1 _ s1 u1 E1 h1 => ?_⟩
  cases c with
  | true => exact ⟨H0, M0, A, e1, E1, h1⟩
  | false => exact h1 H1 Stp.refl Sub.refl E1
theorem w_or {a b : Expr} {rest : List Expr} {a' b' : IR} {pos : Pos} (ha : PT X a (tIt G W X.K a')) (hb : PW X (.BoolOp .Or (b :: rest) pos) (tIt G W X.K b')) : PW X (.BoolOp .Or (a :: b :: rest) pos) (tIt G W X.K (.or_ a' b')) := PW.by_ (pw_or ha hb) fun σ H Q q => by
  obtain ⟨H0, M0, A, env, E, q⟩ := q
  rw [tru_or] at q
  refine ⟨H0, M0, A, env, E, (Sat.bind q).mono fun c e1 H1 _ s1 u1 E1 h1 => ?_⟩
  cases c with
  | false => exact ⟨H0, M0, A, e1, E1, h1⟩
  | true => exact h1 H1 Stp.refl Sub.refl E1
/-- a value that is a truth, as a test -/
theorem tru_val {K : PySem.W.Frag} {i : IR} (hb : ∀ env o e1, ev G i env = .ok o e1 → ∃ k, o = .val (.bl k)) {σ : L2.St} {H : Hp} {Q : Bool → Hp → Prop} (q : tIt G W K i σ H Q) : tI G W K i σ H fun v H1 => ∃ k, v = .bl k ∧ Q k H1 := by
  obtain ⟨H0, M0, A, env, E, q⟩ := q
  refine ⟨H0, M0, A, env, E, ?_⟩
  cases e : ev G i env with
  | bad => rw [e] at q; exact q.elim
  | exc C f d e1 => rw [e] at q; exact q
  | ok o e1 =>
    obtain ⟨k, rfl⟩ := hb env o e1 e
    rw [e] at q
    intro H1 s1 u1 E1 v hv
    have hv' : Rep K H1 (MM M0 e1 σ) (.bl k) v := hv
    unfold Rep at hv'
    exact ⟨k, hv', q H1 s1 u1 E1⟩
theorem cmp_bool {op' : COp} {a' b' : IR} : ∀ env o e1, ev G (.cmp op' a' b') env = .ok o e1 → ∃ k, o = .val (.bl k) := fun env o e1 h => by
  rw [ev] at h
  cases h1 : ev G a' env with
  | bad => rw [h1] at h; cases h
  | exc C f d e => rw [h1] at h; cases h
  | ok x e2 =>
    rw [h1] at h
    have h : ((ev G b' e2).bind fun y e2 => match rdO e2 x, rdO e2 y with | some p, some q => lift e2 ((cmpD op' p q).map .bl) | _, _ => .bad) = .ok o e1 := h
    cases h2 : ev G b' e2 with
    | bad => rw [h2] at h; cases h
    | exc C f d e => rw [h2] at h; cases h
    | ok y e3 =>
      rw [h2] at h
      have h : (match rdO e3 x, rdO e3 y with | some p, some q => lift e3 ((cmpD op' p q).map .bl) | _, _ => .bad) = R.ok o e1 := h
      cases h3 : rdO e3 x with
      | none => rw [h3] at h; cases h
      | some p =>
        cases h4 : rdO e3 y with
        | none => rw [h3, h4] at h; cases h
        | some q =>
          rw [h3, h4] at h
          have h : lift e3 ((cmpD op' p q).map .bl) = R.ok o e1 := h
          cases h5 : cmpD op' p q with
          | none => rw [h5] at h; cases h
          | some k => rw [h5] at h; cases h; exact ⟨k, rfl⟩
theorem t_cmp {a b : Expr} {op : CmpOp} {op' : COp} {a' b' : IR} {r : R2} {pos : Pos} (ho : OpR X (compareOp op) r) (hs : CmS X.K r op') (ha : PE X a (tI G W X.K a')) (hb : PE X b (tI G W X.K b')) (hm : behindInMarks op b = false) : PT X (.Compare a [op] [b] pos) (tIt G W X.K (.cmp op' a' b')) :=
  PT.by_ (pt_cmpR ho ha hb hm) fun σ H Q q => op_read hs (fun env => by first | (rw [ev]; done) | (rw [ev]; rfl)) (tru_val cmp_bool q)
theorem e_ite {t a b : Expr} {t' a' b' : IR} {pos : Pos} (ht : PT X t (tIt G W X.K t')) (ha : PE X a (tI G W X.K a')) (hb : PE X b (tI G W X.K b')) : PE X (.IfExp t a b pos) (tI G W X.K (.ite t' a' b')) := PE.by_ (pe_ifExp ht ha hb) fun σ H Q q => by
  obtain ⟨H0, M0, A, env, E, q⟩ := q
  rw [ev] at q
  refine ⟨H0, M0, A, env, E, (Sat.bind q).mono fun c e1 H1 _ s1 u1 E1 h1 => ?_⟩
  cases c with
  | true => exact ⟨H0, M0, A, e1, E1, h1⟩
  | false => exact ⟨H0, M0, A, e1, E1, h1⟩
def starB : Expr → Bool
  | .Starred _ _ => true
  | _ => false
theorem star_cons {e : Expr} {es : List Expr} {env : PySem.Env} (h : starB e = false) : starEach (e :: es) env = (false, eval e env) :: starEach es env := by
  cases e <;> first | rfl | cases h
theorem star_none {pos : Pos} {env : PySem.Env} : ∀ {es : List Expr}, es.any starB = false → (backTo pos (starEach es env)).any (·.1) = false
  | [], _ => rfl
  | e :: es, h => by
    rw [List.any_cons, Bool.or_eq_false_iff] at h
    rw [star_cons h.1]
    show (false || (backTo pos (starEach es env)).any (·.1)) = false
    rw [star_none h.2] <;> rfl
theorem as_nil : PA X [] (tIs G W X.K []) := PA.by_ pa_nil fun σ H Q q => by
  obtain ⟨H0, M0, A, env, E, q⟩ := q
  rw [evs] at q
  exact q H Stp.refl Sub.refl E [] RepL.nil
theorem as_cons {e : Expr} {es : List Expr} {i : IR} {is : List IR} (ha : PE X e (tI G W X.K i)) (hr : PA X es (tIs G W X.K is)) (hs : starB e = false) : PA X (e :: es) (tIs G W X.K (i :: is)) := PA.by_ (pa_cons ha hr (star_cons hs)) fun σ H Q q => by
  obtain ⟨H0, M0, A, env, E, q⟩ := q
  rw [evs] at q
  unfold R.take at q
  rw [R.bind_assoc] at q
  refine ⟨H0, M0, A, env, E, (Sat.bind q).mono fun o e1 H1 _ s1 u1 E1 h1 x hx => ?_⟩
  cases e : takeO e1 o with
  | none => rw [e] at h1; exact h1.elim
  | some p =>
    obtain ⟨d, e2⟩ := p
    rw [e] at h1
    obtain ⟨E2, rd, u2⟩ := E1.take hx e
    have h2 : Sat X.K H0 M0 A W ((evs G is e2).bind fun ds e3 => .ok (d :: ds) e3) e1 σ H1 (fun ds e1 H1 => ∀ vs, RepL X.K H1 (MM M0 e1 σ) ds vs → Q vs H1) := h1
    have h3 : Sat X.K H0 M0 A W ((evs G is e2).bind fun ds e3 => .ok (d :: ds) e3) e2 σ H1 (fun ds e1 H1 => ∀ vs, RepL X.K H1 (MM M0 e1 σ) ds vs → Q vs H1) := h2.sub u2
    refine ⟨H0, M0, A, e2, E2, (Sat.bind h3).mono fun ds e3 H3 _ s3 u3 E3 h4 vs hv => ?_⟩
    exact h4 H3 Stp.refl Sub.refl E3 (x :: vs) (RepL.cons (hold rd E2.aM s3 u3) hv)
end
end Mp
set_option maxHeartbeats 4000000
namespace Mp
open PySem L2
variable [TabsW]
section
variable {X : Cx} {G : Ctx} {W : WX}
theorem ar_nil : PA X [] (tIr G W X.K []) := PA.by_ pa_nil fun σ H Q q => by
  obtain ⟨H0, M0, A, env, E, q⟩ := q
  rw [evr] at q
  exact q H Stp.refl Sub.refl E [] .nil
theorem ar_cons {e : Expr} {es : List Expr} {i : IR} {is : List IR} (ha : PE X e (tI G W X.K i)) (hr : PA X es (tIr G W X.K is)) (hs : starB e = false) : PA X (e :: es) (tIr G W X.K (i :: is)) := PA.by_ (pa_cons ha hr (star_cons hs)) fun σ H Q q => by
  obtain ⟨H0, M0, A, env, E, q⟩ := q
  rw [evr] at q
  refine ⟨H0, M0, A, env, E, (Sat.bind q).mono fun o e1 H1 _ s1 u1 E1 h1 x hx => ?_⟩
  refine ⟨H0, M0, A, e1, E1, (Sat.bind h1).mono fun os e2 H2 _ s2 u2 E2 h2 vs hv => ?_⟩
  exact h2 H2 Stp.refl Sub.refl E2 (x :: vs) (.cons (hx.hold E1.aM s2 u2) hv)
theorem aa_nil {io : Option Nat} {n : Nat} : PA X [] (tIa G W X.K io n []) := PA.by_ pa_nil fun σ H Q q => by
  obtain ⟨H0, M0, A, env, E, q⟩ := q
  rw [eva] at q
  exact q H Stp.refl Sub.refl E [] .nil
theorem aa_cons {e : Expr} {es : List Expr} {i : IR} {is : List IR} {io : Option Nat} {n : Nat} (ha : PE X e (tI G W X.K i)) (hr : PA X es (tIa G W X.K io (n + 1) is)) (hs : starB e = false) : PA X (e :: es) (tIa G W X.K io n (i :: is)) := PA.by_ (pa_cons ha hr (star_cons hs)) fun σ H Q q => by
  obtain ⟨H0, M0, A, env, E, q⟩ := q
  rw [eva] at q
  by_cases hio : io = some n
  · rw [if_pos hio] at q
    refine ⟨H0, M0, A, env, E, (Sat.bind q).mono fun o e1 H1 _ s1 u1 E1 h1 x hx => ?_⟩
    cases o with
    | val d => exact h1.elim
    | pl j =>
      refine ⟨H0, M0, A, e1, E1, (Sat.bind h1).mono fun p e2 H2 _ s2 u2 E2 h2 vs hv => ?_⟩
      exact h2 H2 Stp.refl Sub.refl E2 (x :: vs) (.cons (hx.hold E1.aM s2 u2) hv)
  · rw [if_neg hio] at q
    unfold R.take at q
    rw [R.bind_assoc] at q
    refine ⟨H0, M0, A, env, E, (Sat.bind q).mono fun o e1 H1 _ s1 u1 E1 h1 x hx => ?_⟩
    cases e : takeO e1 o with
    | none => rw [e] at h1; exact h1.elim
    | some p =>
      obtain ⟨d, e2⟩ := p
      rw [e] at h1
      obtain ⟨E2, rd, u2⟩ := E1.take hx e
      have h2 : Sat X.K H0 M0 A W ((eva G io (n + 1) is e2).bind fun p e3 => .ok (.val d :: p.1, p.2) e3) e1 σ H1 (fun p e1 H1 => ∀ vs, Paired (OpdR X.K M0 e1 σ H1) p.1 vs → Q vs H1) := h1
      refine ⟨H0, M0, A, e2, E2, (Sat.bind (h2.sub u2)).mono fun p e3 H3 _ s3 u3 E3 h4 vs hv => ?_⟩
      exact h4 H3 Stp.refl Sub.refl E3 (x :: vs) (.cons (show OpdR X.K M0 e3 σ H3 (.val d) x from hold rd E2.aM s3 u3) hv)
theorem e_tup {es : List Expr} {is : List IR} {k : Nat} {pos : Pos} (h : PA X es (tIs G W X.K is)) : PE X (.Tuple es k pos) (tI G W X.K (.tup is)) := PE.by_ (pe_tup h) fun σ H Q q => by
  obtain ⟨H0, M0, A, env, E, q⟩ := q
  rw [ev] at q
  refine ⟨H0, M0, A, env, E, (Sat.bind q).mono fun ds e1 H1 _ s1 u1 E1 h1 xs hx => ?_⟩
  have hs : sizeLine = 16777216 := sizeLine_eq
  by_cases hl : ds.length ≤ BIG
  · rw [if_pos hl] at h1
    refine ⟨by rw [← hx.length]; unfold BIG at hl; omega, fun p hp => ?_⟩
    exact h1 _ (Stp.new hp) Sub.refl (E1.new hp) _ (rep_newT hp (E1.fresh hp).1 hx)
  · rw [if_neg hl] at h1; exact h1.elim
theorem e_lst {es : List Expr} {is : List IR} {pos : Pos} (h : PA X es (tIs G W X.K is)) : PE X (.List es pos) (tI G W X.K (.lst is)) := PE.by_ (pe_lst h) fun σ H Q q => by
  obtain ⟨H0, M0, A, env, E, q⟩ := q
  rw [ev] at q
  refine ⟨H0, M0, A, env, E, (Sat.bind q).mono fun ds e1 H1 _ s1 u1 E1 h1 xs hx => ?_⟩
  have hs : sizeLine = 16777216 := sizeLine_eq
  by_cases hl : ds.length ≤ BIG
  · rw [if_pos hl] at h1
    refine ⟨by rw [← hx.length]; unfold BIG at hl; omega, fun p hp => ?_⟩
    exact h1 _ (Stp.new hp) Sub.refl (E1.new hp) _ (rep_new hp (E1.fresh hp).1 hx)
  · rw [if_neg hl] at h1; exact h1.elim
theorem ops_rd {K : PySem.W.Frag} {H0 H : Hp} {M0 A : AS} {env : Env} {σ : L2.St} (E : EnvR K H0 M0 A env σ H) : ∀ {os : List Opd} {vs : List V} {ds : List D}, Paired (OpdR K M0 env σ H) os vs → os.mapM (rdO env) = some ds → Paired (RepT K H (MM M0 env σ)) ds vs
  | [], _, ds, .nil, e => by
    rw [List.mapM_nil] at e
    cases e; exact .nil
  | o :: os, _, ds, .cons r t, e => by
    rw [List.mapM_cons] at e
    cases e1 : rdO env o with
    | none => rw [e1] at e; cases e
    | some d =>
      cases e2 : os.mapM (rdO env) with
      | none => rw [e1, e2] at e; cases e
      | some ds' =>
        rw [e1, e2] at e
        cases e
        exact .cons (r.rdT E e1) (ops_rd E t e2)
theorem blt_read {K : PySem.W.Frag} {b : Blt} {is : List IR} {r : List V → Hp → VK → Prop} (hs : CaS K r (bltD b)) {σ : L2.St} {H : Hp} {Q : VK} (q : tI G W K (.blt b is) σ H Q) : tCB r (tIr G W K is) σ H Q := by
  obtain ⟨H0, M0, A, env, E, q⟩ := q
  rw [ev] at q
  refine ⟨H0, M0, A, env, E, (Sat.bind q).mono fun os e1 H1 _ s1 u1 E1 h1 xs hx => ?_⟩
  cases e : os.mapM (rdO e1) with
  | none => rw [e] at h1; exact h1.elim
  | some ds =>
    rw [e] at h1
    cases e2 : bltD b ds with
    | none => dsimp only at h1; rw [e2] at h1; exact h1.elim
    | some z =>
      dsimp only at h1
      rw [e2] at h1
      exact hs (MM M0 e1 σ) xs H1 ds z Q (ops_rd E1 hx e) (fun a ha => (E1.fresh ha).1) e2 fun v H' st rv => h1 H' st.no Sub.refl (E1.keep st) v rv
theorem e_bltF {e : Expr} {es : List Expr} {is : List IR} {b : Blt} {r : List V → Hp → VK → Prop} {x : Str} {id : String} {p pos : Pos} (hc : CallR X (.builtin id) r) (hs : CaS X.K r (bltD b)) (hg : Gl X x) (hm : X.mg x = none) (hv : bootBuiltins x = some (.builtin id))
    (ha : PA X (e :: es) (tIr G W X.K is)) (h1 : (e :: es).any starB = false) (hn : x ≠ "__name__") (hd : (x == ("__debug__" : Str)) = false) : PE X (.Call (.Name x p) (e :: es) [] pos) (tI G W X.K (.blt b is)) := by
  rw [List.any_cons, Bool.or_eq_false_iff] at h1
  exact PE.by_ (pe_callB hc hg hm hv ha hn hd (star_cons h1.1) (star_none h1.2)) fun σ H Q q => blt_read hs q
theorem e_bltT {e : Expr} {es : List Expr} {is : List IR} {b : Blt} {r : List V → Hp → VK → Prop} {x : Str} {id : String} {p pos : Pos} (hc : CallR X (.type id) r) (hs : CaS X.K r (bltD b)) (hg : Gl X x) (hm : X.mg x = none) (hv : bootBuiltins x = some (.type id))
    (ha : PA X (e :: es) (tIr G W X.K is)) (h1 : (e :: es).any starB = false) (hn : x ≠ "__name__") (hd : (x == ("__debug__" : Str)) = false) : PE X (.Call (.Name x p) (e :: es) [] pos) (tI G W X.K (.blt b is)) := by
  rw [List.any_cons, Bool.or_eq_false_iff] at h1
  exact PE.by_ (pe_callTy hc hg hm hv ha hn hd (star_cons h1.1) (star_none h1.2)) fun σ H Q q => blt_read hs q
end
end Mp
set_option maxHeartbeats 4000000
namespace Mp
open PySem L2
variable [TabsW]
/-- the slots handed over for change: what eva's second part says of the first -/
def IoOps (io : Option Nat) (n : Nat) (os : List Opd) (is : List Nat) : Prop :=
  (∀ (m i : Nat), os[m]? = some (.pl i) → io = some (n + m)) ∧ (∀ (m : Nat), io = some (n + m) → m < os.length → ∃ i, os[m]? = some (.pl i) ∧ is = [i]) ∧ (∀ i ∈ is, ∃ m, io = some (n + m) ∧ m < os.length)
theorem eva_ops (G : Ctx) (io : Option Nat) : ∀ (es : List IR) (n : Nat) (env : Env) (p : List Opd × List Nat) (e1 : Env), eva G io n es env = .ok p e1 → IoOps io n p.1 p.2 ∧ ((∀ m, io = some m → m < n) → p.2 = [])
  | [], n, env, p, e1, h => by
    rw [eva] at h
    cases h
    exact ⟨⟨fun m i e => by simp at e, fun m _ hl => by simp at hl, fun i hi => by simp at hi⟩, fun _ => rfl⟩
  | e :: es, n, env, p, e1, h => by
    rw [eva] at h
    by_cases hio : io = some n
    · rw [if_pos hio] at h
      cases h1 : ev G e env with
      | bad => rw [h1] at h; cases h
      | exc C f d e2 => rw [h1] at h; cases h
      | ok o e2 =>
        rw [h1] at h
        cases o with
        | val d => cases h
        | pl i =>
          have h : ((eva G io (n + 1) es e2).bind fun p e2 => R.ok (Opd.pl i :: p.1, i :: p.2) e2) = .ok p e1 := h
          cases h2 : eva G io (n + 1) es e2 with
          | bad => rw [h2] at h; cases h
          | exc C f d e3 => rw [h2] at h; cases h
          | ok q e3 =>
            rw [h2] at h
            cases h
            obtain ⟨⟨a, b, c⟩, d⟩ := eva_ops G io es (n + 1) e2 q _ h2
            have hq : q.2 = [] := d fun m hm => by rw [hio] at hm; cases hm; omega
            refine ⟨⟨fun m j e => ?_, fun m hm hl => ?_, fun j hj => ⟨0, hio, by simp⟩⟩, fun z => ?_⟩
            · cases m with
              | zero => exact hio
              | succ m =>
                have := a m j (by simpa using e)
                rw [this]; congr 1; omega
            · have : m = 0 := by rw [hio] at hm; injection hm with hm; omega
              subst this
              exact ⟨i, rfl, by rw [hq]⟩
            · have := z n hio; omega
    · rw [if_neg hio] at h
      cases h1 : (ev G e env).take with
      | bad => rw [h1] at h; cases h
      | exc C f d e2 => rw [h1] at h; cases h
      | ok d e2 =>
        rw [h1] at h
        have h : ((eva G io (n + 1) es e2).bind fun p e2 => R.ok (Opd.val d :: p.1, p.2) e2) = .ok p e1 := h
        cases h2 : eva G io (n + 1) es e2 with
        | bad => rw [h2] at h; cases h
        | exc C f d e3 => rw [h2] at h; cases h
        | ok q e3 =>
          rw [h2] at h
          cases h
          obtain ⟨⟨a, b, c⟩, d'⟩ := eva_ops G io es (n + 1) e2 q _ h2
          refine ⟨⟨fun m j e => ?_, fun m hm hl => ?_, fun j hj => let ⟨m, a1, a2⟩ := c j hj; ⟨m + 1, by rw [a1]; congr 1; omega, by simpa using a2⟩⟩, fun z => d' fun m hm => by have := z m hm; omega⟩
          · cases m with
            | zero => simp at e
            | succ m =>
              have := a m j (by simpa using e)
              rw [this]; congr 1; omega
          · cases m with
            | zero => exact absurd hm hio
            | succ m =>
              have hl' : m < q.1.length := by simpa using hl
              obtain ⟨i, e1, e2⟩ := b m (by rw [hm]; congr 1; omega) hl'
              exact ⟨i, by simpa using e1, e2⟩
theorem Paired.get {α β : Type} {F : α → β → Prop} : ∀ {xs : List α} {ys : List β} {i : Nat} {x : α} {y : β}, Paired F xs ys → xs[i]? = some x → ys[i]? = some y → F x y
  | _, _, _, _, _, .nil, h, _ => by simp at h
  | _, _, 0, _, _, .cons r _, h1, h2 => by simp at h1 h2; subst h1; subst h2; exact r
  | _, _, i + 1, _, _, .cons _ t, h1, h2 => Paired.get (i := i) t (by simpa using h1) (by simpa using h2)
theorem mapM_get {env : Env} : ∀ {os : List Opd} {ds : List D} {i : Nat} {d : D}, os.mapM (rdO env) = some ds → ds[i]? = some d → ∃ o, os[i]? = some o ∧ rdO env o = some d
  | [], ds, i, d, h, e => by
    rw [List.mapM_nil] at h; cases h; simp at e
  | o :: os, ds, i, d, h, e => by
    rw [List.mapM_cons] at h
    cases e1 : rdO env o with
    | none => rw [e1] at h; cases h
    | some d' =>
      cases e2 : os.mapM (rdO env) with
      | none => rw [e1, e2] at h; cases h
      | some ds' =>
        rw [e1, e2] at h
        cases h
        cases i with
        | zero => simp at e; subst e; exact ⟨o, rfl, e1⟩
        | succ i =>
          obtain ⟨o', a, b⟩ := mapM_get (i := i) e2 (by simpa using e)
          exact ⟨o', by simpa using a, b⟩
theorem mapM_len {env : Env} : ∀ {os : List Opd} {ds : List D}, os.mapM (rdO env) = some ds → ds.length = os.length
  | [], ds, h => by rw [List.mapM_nil] at h; cases h; rfl
  | o :: os, ds, h => by
    rw [List.mapM_cons] at h
    cases e1 : rdO env o with
    | none => rw [e1] at h; cases h
    | some d' =>
      cases e2 : os.mapM (rdO env) with
      | none => rw [e1, e2] at h; cases h
      | some ds' =>
        rw [e1, e2] at h
        cases h
        simp [mapM_len e2]
section
variable {X : Cx} {G : Ctx} {W : WX}
/-- a call's end: what the def promises is what frR says -/
theorem call_end {K : PySem.W.Frag} {H0 H : Hp} {M0 A : AS} {env : Env} {σ : L2.St} {Q : VK} {n : Nat} {io : Option Nat} {F : List D → FR} {os : List Opd} {is : List Nat} {ds : List D} {vs : List V} (E : EnvR K H0 M0 A env σ H) (hv : Paired (OpdR K M0 env σ H) os vs) (hn : vs.length = n)
    (hi : IoOps io 0 os is) (hm : os.mapM (rdO env) = some ds) (h : Sat K H0 M0 A W (frR env io is (F ds)) env σ H fun o e1 H1 => ∀ v, OpdR K M0 e1 σ H1 o v → Q v H1) : spF K n io F vs H Q (WE W σ) := by
  have lv : os.length = vs.length := Paired.length hv
  -- no one is handed over
  have none_case : io = none → spF K n io F vs H Q (WE W σ) := fun z => by
    subst z
    refine ⟨hn, MM M0 env σ, ds, E.mok, ⟨by rw [mapM_len hm, lv], fun i d v e1 e2 => ⟨fun _ => ?_, fun z => nomatch z⟩⟩, ?_⟩
    · obtain ⟨o, o1, o2⟩ := mapM_get hm e1
      have r := Paired.get hv o1 e2
      cases o with
      | pl j => exact nomatch hi.1 i j o1
      | val d' => cases o2; exact r
    · cases e : F ds with
      | bad => rw [e] at h; exact h.elim
      | ok d out =>
        rw [e] at h
        intro v H' st _ rv
        have st' : Stp NoA H H' := st.weak fun a ⟨i, z, _⟩ => nomatch z
        exact h H' st'.no Sub.refl (E.keep st') v rv
      | exc C f d out =>
        rw [e] at h
        intro dd v H' st _ hd rv
        have st' : Stp NoA H H' := st.weak fun a ⟨i, z, _⟩ => nomatch z
        exact h dd v H' st'.no Sub.refl (E.keep st') hd rv
  cases hio : io with
  | none => rw [hio] at none_case; exact none_case rfl
  | some m =>
    subst hio
    -- the slot that is handed over
    have slot : ∃ i, is = [i] := by
      cases e : F ds with
      | bad => rw [e] at h; exact h.elim
      | ok d out =>
        rw [e] at h
        match is, h with
        | [i], _ => exact ⟨i, rfl⟩
        | [], h => exact h.elim
        | _ :: _ :: _, h => exact h.elim
      | exc C f d out =>
        rw [e] at h
        match is, h with
        | [i], _ => exact ⟨i, rfl⟩
        | [], h => exact h.elim
        | _ :: _ :: _, h => exact h.elim
    obtain ⟨i, rfl⟩ := slot
    by_cases hml : m < os.length
    · obtain ⟨i', om, ei⟩ := hi.2.1 m (by rw [Nat.zero_add]) hml
      cases ei
      obtain ⟨v, hvm⟩ : ∃ v, vs[m]? = some v := ⟨vs[m]'(by omega), List.getElem?_eq_getElem (by omega)⟩
      obtain ⟨sv, c, hc⟩ := Paired.get hv om hvm
      have hcell : cellAt env i = some c := by unfold cellAt; rw [hc]; rfl
      -- its cell is ours or handed to us
      have key : ∃ (a : Addr) (xs : List V) (es : List D), v = .ref a ∧ MM M0 env σ a ∧ H a = some (.lst xs) ∧ RepL K H (MM M0 env σ) es xs ∧ content c = .lst es ∧
          (∀ (out : List D) (ys : List V) (H' : Hp), Stp (fun x => x = a) H H' → H' a = some (.lst ys) → RepL K H' (MM M0 env σ) out ys → ∃ env', EnvR K H0 M0 A env' σ H' ∧ Sub σ env env' ∧ MM M0 env' σ = MM M0 env σ ∧ WW A env σ a ∧
            (∀ d, frR env (some m) [i] (.ok d out) = .ok (.val d) env') ∧ ∀ C f d, frR env (some m) [i] (.exc C f d out) = .exc C f d env') := by
        cases c with
        | dat d =>
          exfalso
          cases e : F ds with
          | bad => rw [e] at h; exact h.elim
          | ok d' out => rw [e] at h; unfold frR at h; dsimp only at h; rw [hcell] at h; exact h.elim
          | exc C f d' out => rw [e] at h; unfold frR at h; dsimp only at h; rw [hcell] at h; exact h.elim
        | slf C ns es => exact absurd hc (fun q => E.slf i C ns es q)
        | own es =>
          obtain ⟨a, xs, s, q, l, nm, h0⟩ := E.own i es hc
          rw [sv] at s; cases s
          refine ⟨a, xs, es, rfl, .inr ⟨i, es, hc, sv⟩, q, l, rfl, fun out ys H' st h' rr => ?_⟩
          obtain ⟨E', u, eM⟩ := E.setOwn hc sv st h' rr
          refine ⟨_, E', u, eM, .inr ⟨i, es, hc, sv⟩, fun d => ?_, fun C f d => ?_⟩
          · unfold frR; dsimp only; rw [hcell]
          · unfold frR; dsimp only; rw [hcell]
        | io es =>
          obtain ⟨a, xs, s, Aa, q, l⟩ := E.io i es hc
          rw [sv] at s; cases s
          refine ⟨a, xs, es, rfl, .inl (E.aM a Aa), q, l, rfl, fun out ys H' st h' rr => ?_⟩
          obtain ⟨E', u, eM⟩ := E.setIo hc sv st h' rr
          refine ⟨_, E', u, eM, .inl Aa, fun d => ?_, fun C f d => ?_⟩
          · unfold frR; dsimp only; rw [hcell]
          · unfold frR; dsimp only; rw [hcell]
      obtain ⟨a, xs, es, rfl, Ma, ha, l, hcont, go⟩ := key
      refine ⟨hn, MM M0 env σ, ds, E.mok, ⟨by rw [mapM_len hm, lv], fun j d w e1 e2 => ?_⟩, ?_⟩
      · obtain ⟨o, o1, o2⟩ := mapM_get hm e1
        have r := Paired.get hv o1 e2
        refine ⟨fun z => ?_, fun z => ?_⟩
        · cases o with
          | pl k =>
            have := hi.1 j k o1
            rw [Nat.zero_add] at this
            exact absurd this z
          | val d' => cases o2; exact r
        · cases z
          rw [om] at o1; cases o1
          rw [hvm] at e2; cases e2
          have : (cellAt env i).map content = some d := o2
          rw [hcell] at this
          rw [Option.map_some, hcont] at this
          cases this
          exact ⟨a, xs, es, rfl, rfl, Ma, ha, l⟩
      · have ioA : ∀ x, IoA (some m) vs x → x = a := fun x ⟨j, z, q⟩ => by
          cases z; rw [hvm] at q; cases q; rfl
        cases e : F ds with
        | bad => rw [e] at h; exact h.elim
        | ok d out =>
          rw [e] at h
          intro v H' st ot rv
          obtain ⟨a', ys, q1, q2, q3⟩ := ot m rfl
          rw [hvm] at q1; cases q1
          obtain ⟨env', E', u, eM, wa, f1, _⟩ := go out ys H' (st.weak ioA) q2 q3
          rw [f1] at h
          exact h H' (st.weak fun x z => ioA x z ▸ wa) u E' v (by show Rep K H' (MM M0 env' σ) d v; rw [eM]; exact rv)
        | exc C f d out =>
          rw [e] at h
          intro dd v H' st ot hd rv
          obtain ⟨a', ys, q1, q2, q3⟩ := ot m rfl
          rw [hvm] at q1; cases q1
          obtain ⟨env', E', u, eM, wa, _, f2⟩ := go out ys H' (st.weak ioA) q2 q3
          rw [f2] at h
          exact h dd v H' (st.weak fun x z => ioA x z ▸ wa) u E' hd (by rw [eM]; exact rv)
    · exfalso
      obtain ⟨m', a1, a2⟩ := hi.2.2 i (by simp)
      rw [Nat.zero_add] at a1
      cases a1
      exact hml a2
end
end Mp
set_option maxHeartbeats 4000000
namespace Mp
open PySem L2 PyProof.Rows
/-- whether it is known that no repr is under way -/
class GdW where
  gd : Prop
variable [TabsW] [GdW]
/-- room for so many calls, where no repr is under way -/
structure Room (k : Nat) (A : Around) : Prop where
  r : L2.Room k A
  g : GdW.gd → A.guards = some []
theorem Room.mono {j k : Nat} {A : Around} (h : Room k A) (l : j ≤ k) : Room j A := ⟨h.r.mono l, h.g⟩
theorem Room.make {k : Nat} {A : Around} (h : Room (k + 1) A) (C : Addr) (us : List Value) (kw : List (Str × Value)) : Room k (A.under (.builtin "type.__call__" ⟨.ref C :: us, kw⟩)) := by
  refine ⟨h.r.make C us kw, fun z => ?_⟩
  have e : Code.guards (.builtin "type.__call__" ⟨.ref C :: us, kw⟩) = [] := rfl
  show pushGuards (Code.guards (.builtin "type.__call__" ⟨.ref C :: us, kw⟩)) A.guards = some []
  rw [e, h.g z]
  rfl
/-- what a def is worth where no repr is under way -/
structure FnOk (P : Program) (w : World) (K : PySem.W.Frag) (mg : Str → Option Value) (base : Heap) (CX : CXT) (k : Nat) (f : Addr) (fd : FuncData) (ps : List Str) (sp : Sp) : Prop where
  len : ∀ vs H Q E, sp vs H Q E → vs.length = ps.length
  go : ∀ (A : Around) (out : List PySem.Env) (s : Shared) (H : Hp) (args : Args) (us : List Value) (vs : List V) (Q : VK) (E : XK), Room k A → Env0 P w K mg base A out s H → BindsTo s fd args (ps.zip us) → Vals vs us → sp vs H Q E → codeAny (model P w) A (.call (.ref f) args) (CR CX out P w H s Q E) s
/-- THE RULE for a def by its text -/
theorem fn_text {CX : CXT} {P : Program} {w : World} {K : PySem.W.Frag} {mg : Str → Option Value} {base : Heap} {k : Nat} {f : Addr} {nm qn : Str} {par : Arguments} {bd : List Stmt} {sc : Scope} {dV kV doc pm cdv ct oc : Value} {an od : Option Addr} {osl : Array (Option Value)} {N ps : List Str} {sp : Sp}
    (lk : K.lookup f = some ⟨oc, od, .func (PySem.W.fnOf nm qn par bd sc dV kV doc pm an cdv ct), osl⟩) (hcd : PySem.W.codeIn K cdv qn = true) (S : FnScope N ps sc) (len : ∀ vs H Q E, sp vs H Q E → vs.length = ps.length)
    (bod : ∀ (A : Around) (out : List PySem.Env) (s : Shared) (H : Hp) (vs : List V) (Q : VK) (E : XK), Room k (A.deeper (envOfC qn sc s.heap.objs.size f cdv)) → sp vs H Q E → ∃ t, PSs (cxOf CX P w K mg base N qn sc f cdv A out s H E) bd t ∧ t { nx := fun _ H' => Q .non H', rt := Q } (L2.start N vs) H) :
    FnOk P w K mg base CX (k + 1) f (PySem.W.fnOf nm qn par bd sc dV kV doc pm an cdv ct) ps sp :=
  ⟨len, fun A out s H args us vs Q E hr e0 hb r h => LamX.run_ofS lk hcd S hr.r e0 hb r (len _ _ _ _ h) fun hr' => bod A out s H vs Q E ⟨hr', hr.g⟩ h⟩
theorem fun_okX {P : Program} {w : World} {K : PySem.W.Frag} {mg : Str → Option Value} {base : Heap} {x qn : Str} {st : Stmt} {f : Addr} {fd : FuncData} {N ps : List Str} {k : Nat} {sp : Sp} (F : Fun K x qn st f fd) (S : FnScope N ps (defScope st)) (len : ∀ vs H Q E, sp vs H Q E → vs.length = ps.length)
    (bod : ∀ (cdv : Value) (A : Around) (out : List PySem.Env) (s : Shared) (H : Hp) (vs : List V) (Q : VK) (E : XK), Room k (A.deeper (envOfC qn (defScope st) s.heap.objs.size f cdv)) → sp vs H Q E →
      ∃ t, PSs (cxOf (L2.CX P w) P w K mg base N qn (defScope st) f cdv A out s H E) (defBody st) t ∧ t { nx := fun _ H' => Q .non H', rt := Q } (L2.start N vs) H) : FnOk P w K mg base (L2.CX P w) (k + 1) f fd ps sp := by
  obtain ⟨oc, od, kV, doc, pm, an, cdv, ct, osl, rfl, lk, hcd⟩ := F.ex
  exact fn_text lk hcd S len fun A out s H vs Q E hr h => bod cdv A out s H vs Q E hr h
section
variable {X : Cx} {CX : CXT} {k : Nat} {f : Addr} {fd : FuncData} {ps : List Str} {sp : Sp} {ds : List Value} {dvs : List V} {E : L2.St → XK}
theorem run_fnSD {pins : List (Addr × Obj)} {τ : L2.St} {H : Hp} {s : Shared} {Q : VK} {us : List Value} {vs : List V} (F : FnOk X.prog X.w X.K X.mg X.base CX k f fd ps sp) (room : Room k X.A) (bi : Binds X.K fd ps ds) (dv : Vals dvs ds) (pa : PassesAt CX X τ (E τ))
    (I : Inv X pins τ H s) (r : Vals vs us) (want : sp (vs ++ dvs) H Q (E τ)) : wpAny (model X.prog X.w) X.A (call (.ref f) us) (EP X pins τ Q) X.xe s := by
  have rr : Vals (vs ++ dvs) (us ++ ds) := r.append dv
  have many : (us ++ ds).length = ps.length := rr.length.symm.trans (F.len _ _ _ _ want)
  refine wpAny_call (codeAny_mono (F.go _ X.stack _ _ ⟨us, []⟩ _ _ _ (E τ) room I.env0 (bi _ us I.kIn many) rr want) fun res s' got => ?_)
  match res, got with
  | .error e, got => exact pa pins _ _ e s' I got
  | .ok (.ret u), got => exact I.after got
  | .ok .next, got => exact got.elim
  | .ok .brk, got => exact got.elim
  | .ok .cont, got => exact got.elim
theorem pe_callSD {x : Str} {e : Expr} {es : List Expr} {t : TA} {p pos : Pos} (F : FnOk X.prog X.w X.K X.mg X.base CX k f fd ps sp) (room : Room k X.A) (hg : Gl X x) (hm : X.mg x = some (.ref f)) (hk : PySem.W.keepIn X.K (.ref f) = true) (bi : Binds X.K fd ps ds) (dv : Vals dvs ds) (pa : ∀ τ, PassesAt CX X τ (E τ))
    (ha : PA X (e :: es) t) (dbg : (x == ("__debug__" : Str)) = false) (h1 : starEach (e :: es) X.env = (false, eval e X.env) :: starEach es X.env) (h2 : (backTo pos (starEach es X.env)).any (·.1) = false) : PE X (.Call (.Name x p) (e :: es) [] pos) (tCallSD sp dvs E t) := by
  refine ⟨fun pins s τ H Q I h => wpAny_Call_Name_kw (ld_glob I hg hm ?_ dbg)⟩
  exact PySem.W.callWith_K (h₀ := X.base) I.ok.mod.kin hk (thn (ha.run pos pins s τ H _ I h) fun us s1 ⟨vs, H1, I1, r, q⟩ => ⟨I1.kIn, run_fnSD F room bi dv (pa τ) I1 r q⟩) h1 h2
end
/-- a def that may be called by a name: n arguments written, more by defaults -/
structure FnF (P : Program) (w : World) (K : PySem.W.Frag) (mg : Str → Option Value) (base : Heap) (k : Nat) (x : Str) (f : Fn) : Prop where
  dbg : (x == ("__debug__" : Str)) = false
  ex : ∃ (a : Addr) (fd : FuncData) (ps : List Str) (sp : Sp) (ds : List Value) (dvs : List V), mg x = some (.ref a) ∧ PySem.W.keepIn K (.ref a) = true ∧ FnOk P w K mg base (L2.CX P w) k a fd ps sp ∧ Binds K fd ps ds ∧ Vals dvs ds ∧
    ∀ vs H Q E, spF K f.n f.io f.sem vs H Q E → sp (vs ++ dvs) H Q E
section
variable {X : Cx} {G : Ctx} {W : WX}
theorem call_read {K : PySem.W.Frag} {j : Nat} {f : Fn} {is : List IR} {sp : Sp} {dvs : List V} (hj : G.fns[j]? = some f) (hs : ∀ vs H Q E, spF K f.n f.io f.sem vs H Q E → sp (vs ++ dvs) H Q E) {σ : L2.St} {H : Hp} {Q : VK} (q : tI G W K (.call j is) σ H Q) :
    tCallSD sp dvs (WE W) (tIa G W K f.io 0 is) σ H Q := by
  obtain ⟨H0, M0, A, env, E, q⟩ := q
  rw [ev, hj] at q
  dsimp only at q
  by_cases hl : is.length = f.n
  · rw [if_pos hl] at q
    refine ⟨H0, M0, A, env, E, (Sat.bind q).mono fun p e1 H1 he s1 u1 E1 h1 vs hv => ?_⟩
    refine hs vs H1 Q _ ?_
    obtain ⟨hi, _⟩ := eva_ops G f.io is 0 env p e1 he
    cases e : p.1.mapM (rdO e1) with
    | none => rw [e] at h1; exact h1.elim
    | some ds =>
      rw [e] at h1
      have ln : vs.length = f.n := by
        rw [← Paired.length hv]
        have := eva_len G f.io is 0 env p e1 he
        rw [this]; exact hl
      exact call_end E1 hv ln hi e h1
  · rw [if_neg hl] at q
    exact q.elim
where
  eva_len (G : Ctx) (io : Option Nat) : ∀ (es : List IR) (n : Nat) (env : Env) (p : List Opd × List Nat) (e1 : Env), eva G io n es env = .ok p e1 → p.1.length = es.length
  | [], n, env, p, e1, h => by rw [eva] at h; cases h; rfl
  | e :: es, n, env, p, e1, h => by
    rw [eva] at h
    by_cases hio : io = some n
    · rw [if_pos hio] at h
      cases h1 : ev G e env with
      | bad => rw [h1] at h; cases h
      | exc C f d e2 => rw [h1] at h; cases h
      | ok o e2 =>
        rw [h1] at h
        cases o with
        | val d => cases h
        | pl i =>
          have h : ((eva G io (n + 1) es e2).bind fun p e2 => R.ok (Opd.pl i :: p.1, i :: p.2) e2) = .ok p e1 := h
          cases h2 : eva G io (n + 1) es e2 with
          | bad => rw [h2] at h; cases h
          | exc C f d e3 => rw [h2] at h; cases h
          | ok q e3 =>
            rw [h2] at h
            cases h
            simp [eva_len G io es (n + 1) e2 q _ h2]
    · rw [if_neg hio] at h
      cases h1 : (ev G e env).take with
      | bad => rw [h1] at h; cases h
      | exc C f d e2 => rw [h1] at h; cases h
      | ok d e2 =>
        rw [h1] at h
        have h : ((eva G io (n + 1) es e2).bind fun p e2 => R.ok (Opd.val d :: p.1, p.2) e2) = .ok p e1 := h
        cases h2 : eva G io (n + 1) es e2 with
        | bad => rw [h2] at h; cases h
        | exc C f d e3 => rw [h2] at h; cases h
        | ok q e3 =>
          rw [h2] at h
          cases h
          simp [eva_len G io es (n + 1) e2 q _ h2]
theorem e_call {k j : Nat} {f : Fn} {x : Str} {e : Expr} {es : List Expr} {is : List IR} {p pos : Pos} (F : FnF X.prog X.w X.K X.mg X.base k x f) (hj : G.fns[j]? = some f) (hr : Room k X.A) (tk : Takes X W) (hg : Gl X x) (ha : PA X (e :: es) (tIa G W X.K f.io 0 is)) (h1 : (e :: es).any starB = false) :
    PE X (.Call (.Name x p) (e :: es) [] pos) (tI G W X.K (.call j is)) := by
  rw [List.any_cons, Bool.or_eq_false_iff] at h1
  obtain ⟨a, fd, ps, sp, ds, dvs, hm, hk, ok, hb, hd, hs⟩ := F.ex
  exact PE.by_ (pe_callSD ok hr hg hm hk hb hd (fun σ => passAt tk σ) ha F.dbg (star_cons h1.1) (star_none h1.2)) fun σ H Q q => call_read hj hs q
theorem evs_len (G : Ctx) : ∀ (es : List IR) (env : Env) (p : List D) (e1 : Env), evs G es env = .ok p e1 → p.length = es.length
  | [], env, p, e1, h => by rw [evs] at h; cases h; rfl
  | e :: es, env, p, e1, h => by
    rw [evs] at h
    cases h1 : (ev G e env).take with
    | bad => rw [h1] at h; cases h
    | exc C f d e2 => rw [h1] at h; cases h
    | ok d e2 =>
      rw [h1] at h
      have h : ((evs G es e2).bind fun ds e2 => R.ok (d :: ds) e2) = .ok p e1 := h
      cases h2 : evs G es e2 with
      | bad => rw [h2] at h; cases h
      | exc C f d e3 => rw [h2] at h; cases h
      | ok q e3 =>
        rw [h2] at h
        cases h
        simp [evs_len G es e2 q _ h2]
end
end Mp
set_option maxHeartbeats 4000000
namespace Mp
open PySem L2
variable [TabsW] [GdW]
section
variable {X : Cx} {G : Ctx} {W : WX}
theorem e_chn {a b c : Expr} {op op' : CmpOp} {o1 o2 : COp} {a' b' c' : IR} {r r' : R2} {pos : Pos} (ho : OpR X (compareOp op) r) (ho' : OpR X (compareOp op') r') (hs : CmS X.K r o1) (hs' : CmS X.K r' o2) (ha : PE X a (tI G W X.K a')) (hb : PE X b (tI G W X.K b')) (hc : PE X c (tI G W X.K c'))
    (hm : lastMarks [op, op'] [b, c] = false) : PE X (.Compare a [op, op'] [b, c] pos) (tI G W X.K (.chn o1 o2 a' b' c')) := PE.by_ (pe_chain ho ho' ha hb hc hm) fun σ H Q q => by
  obtain ⟨H0, M0, A, env, E, q⟩ := q
  rw [ev] at q
  refine ⟨H0, M0, A, env, E, (Sat.bind q).mono fun o e1 H1 _ s1 u1 E1 h1 x hx => ?_⟩
  refine ⟨H0, M0, A, e1, E1, (Sat.bind h1).mono fun ob e2 H2 _ s2 u2 E2 h2 y hy => ?_⟩
  have hx2 := hx.hold E1.aM s2 u2
  cases e3 : rdO e2 o with
  | none => rw [e3] at h2; exact h2.elim
  | some p =>
    cases e : rdO e2 ob with
    | none => rw [e3, e] at h2; exact h2.elim
    | some q' =>
      rw [e3, e] at h2
      dsimp only at h2
      cases e4 : cmpD o1 p q' with
      | none => rw [e4] at h2; exact h2.elim
      | some k =>
        rw [e4] at h2
        refine hs (MM M0 e2 σ) x y H2 p q' (.bl k) _ (hx2.rdT E2 e3) (hy.rdT E2 e) (fun a ha => (E2.fresh ha).1) (by show Option.map D.bl (cmpD o1 p q') = some (D.bl k); rw [e4] <;> rfl) fun v H' st rv => ?_
        have E2' := E2.keep st
        unfold Rep at rv
        refine ⟨k, rv, ?_⟩
        cases k with
        | false =>
          show Q (.bl false) H'
          exact h2 H' st.no Sub.refl E2' _ (rep_bl (K := X.K) (H := H') (M := MM M0 e2 σ) false)
        | true =>
          show tI G W X.K c' σ H' fun w' H4 => r' y w' H4 Q
          dsimp only at h2
          refine ⟨H0, M0, A, e2, E2', (Sat.bind (h2.step st.no)).mono fun oc e3 H3 _ s3 u3 E3 h3 z hz => ?_⟩
          have hy2 : OpdR X.K M0 e2 σ H' ob y := hy.hold E2.aM (st.no) Sub.refl
          exact op_end hs' E3 (hy2.hold E2'.aM s3 u3) hz h3
end
end Mp
set_option maxHeartbeats 4000000
namespace Mp
open PySem L2
variable [TabsW] [GdW]
/-- J goes through ds, while what was tracked at H1 outside S stands -/
def Goes (K : PySem.W.Frag) (M S : AS) (H1 : Hp) (J : L2.It) (ds : List D) : Prop := ∃ (Gd : Hp → Prop) (Y : Nat → Hp → V → Hp → Prop), Walk J ds.length Gd Y ∧ (∀ H', Stp S H1 H' → Gd H') ∧
  ∀ i H x H' (M' : AS), i < ds.length → Stp S H1 H → (∀ a, M' a → (M a ∨ ¬ Lv H1 a) ∧ Lv H a) → Y i H x H' → Stp NoA H H' ∧ ∃ d, ds[i]? = some d ∧ Rep K H' M' d x
theorem PI.by_ {X : Cx} {tg e : Expr} {t t' : TI} (h : PI X tg e t) (i : ∀ σ H Q, t' σ H Q → t σ H Q) : PI X tg e t' := ⟨fun pins s σ H Q I q => h.run pins s σ H Q I (i σ H Q q)⟩
theorem PI.or {X : Cx} {tg e : Expr} {t t' : TI} (h : PI X tg e t) (h' : PI X tg e t') : PI X tg e (fun σ H Q => t σ H Q ∨ t' σ H Q) := ⟨fun pins s σ H Q I q => q.elim (fun q => h.run pins s σ H Q I q) fun q => h'.run pins s σ H Q I q⟩
def tIi (G : Ctx) (W : WX) (K : PySem.W.Frag) (it : IT) : TI := fun σ H R => ∃ H0 M0 A env, EnvR K H0 M0 A env σ H ∧ Sat K H0 M0 A W (evi G it env) env σ H fun ds e1 H1 => ∀ J, Goes K (MM M0 e1 σ) (WW A e1 σ) H1 J ds → R J H1
theorem iota_len : ∀ (n : Nat) (lo : Int), (iotaD lo n).length = n
  | 0, lo => rfl
  | n + 1, lo => by unfold iotaD; simp [iota_len n (lo + 1)]
theorem iota_get : ∀ (n i : Nat) (lo : Int), i < n → (iotaD lo n)[i]? = some (.int (lo + i))
  | 0, i, lo, h => absurd h (Nat.not_lt_zero _)
  | n + 1, 0, lo, h => by unfold iotaD; simp
  | n + 1, i + 1, lo, h => by
    unfold iotaD
    rw [List.getElem?_cons_succ, iota_get n i (lo + 1) (by omega)]
    congr 2
    omega
section
variable {K : PySem.W.Frag} {M S : AS} {H1 : Hp}
/-- an item, later, with other things set apart -/
theorem item_on {H : Hp} {M' : AS} {d : D} {x : V} (hS : ∀ x, S x → M x) (s : Stp S H1 H) (hM : ∀ a, M' a → (M a ∨ ¬ Lv H1 a) ∧ Lv H a) (r : Rep K H1 M d x) : Rep K H M' d x := by
  have r1 : Rep K H1 (fun a => M a ∨ M' a) d x := Rep.grow (fun a z => z.elim .inl fun q => (hM a q).1) d x r
  exact Rep.stp (s.weak fun a z => .inl (hS a z)) (fun a z => .inr z) d x r1
theorem goes_range {lo : Int} {n : Nat} : Goes K M S H1 (Itr lo n) (iotaD lo n) := by
  refine ⟨fun _ => True, YFn fun i => .int (lo + i), by rw [iota_len]; exact walk_range, fun _ _ => trivial, fun i H x H' M' hi _ _ y => ?_⟩
  obtain ⟨rfl, rfl⟩ := y
  rw [iota_len] at hi
  exact ⟨Stp.refl, _, iota_get n i lo hi, rep_int _⟩
theorem goes_list {a : Addr} {xs : List V} {ds : List D} (hS : ∀ x, S x → M x) (h : RdK K H1 M a xs) (r : RepL K H1 M ds xs) : Goes K M S H1 (Itl K a) ds := by
  refine ⟨fun H => SqL K H a xs, YAt xs, by rw [r.length]; exact walk_list, fun H' s => (h.stp (s.weak hS) (fun _ z => z)).l, fun i H x H' M' hi s hM y => ?_⟩
  obtain ⟨rfl, e⟩ := y
  obtain ⟨d, d1, d2⟩ := r.get' e
  exact ⟨Stp.refl, d, d1, item_on hS s hM d2⟩
theorem goes_tup {a : Addr} {xs : List V} {ds : List D} (hS : ∀ x, S x → M x) (nm : ¬ M a) (h : Rd H1 a (.tup xs)) (r : RepL K H1 M ds xs) : Goes K M S H1 (Itt K a) ds := by
  refine ⟨fun H => SqT K H a xs, YAt xs, by rw [r.length]; exact walk_tup, fun H' s => Rd.t (Rd.stp s (fun z => nm (hS a z)) nt_tup h), fun i H x H' M' hi s hM y => ?_⟩
  obtain ⟨rfl, e⟩ := y
  obtain ⟨d, d1, d2⟩ := r.get' e
  exact ⟨Stp.refl, d, d1, item_on hS s hM d2⟩
theorem enum_len : ∀ (ds : List D) (k : Int), (enumD k ds).length = ds.length
  | [], k => rfl
  | d :: ds, k => by unfold enumD; simp [enum_len ds (k + 1)]
theorem enum_get : ∀ (ds : List D) (k : Int) (i : Nat) (d : D), ds[i]? = some d → (enumD k ds)[i]? = some (.tup [.int (k + i), d])
  | [], k, i, d, h => by simp at h
  | e :: ds, k, 0, d, h => by unfold enumD; simp at h; subst h; simp
  | e :: ds, k, i + 1, d, h => by
    unfold enumD
    rw [List.getElem?_cons_succ, enum_get ds (k + 1) i d (by simpa using h)]
    have : k + 1 + (i : Int) = k + ((i + 1 : Nat) : Int) := by omega
    rw [this]
theorem pair_new {H H' : Hp} {T : Addr} {x y : V} {d e : D} (hM : ∀ a, M a → Lv H a) (hT : H T = none) (eH : H' = upd H T (.tup [x, y])) (rx : Rep K H M d x) (ry : Rep K H M e y) : Stp NoA H H' ∧ Rep K H' M (.tup [d, e]) (.ref T) := by
  subst eH
  exact ⟨Stp.new hT, rep_newT hT (fun z => (hM T z).ne hT) (RepL.cons rx (RepL.cons ry RepL.nil))⟩
theorem goes_enum {a : Addr} {xs : List V} {ds : List D} (hS : ∀ x, S x → M x) (h : RdK K H1 M a xs) (r : RepL K H1 M ds xs) : Goes K M S H1 (Ite K a) (enumD 0 ds) := by
  refine ⟨fun H => SqL K H a xs, YPair (fun i => some (.int (i : Nat))) (fun i => xs[i]?), by rw [enum_len, r.length]; exact walk_enum, fun H' s => (h.stp (s.weak hS) (fun _ z => z)).l, fun i H v H' M' hi s hM y => ?_⟩
  obtain ⟨T, x, y, rfl, hT, eH, e1, e2⟩ := y
  cases e1
  obtain ⟨d, d1, d2⟩ := r.get' e2
  obtain ⟨s1, r1⟩ := pair_new (d := .int (i : Nat)) (x := .int (i : Nat)) (fun a z => (hM a z).2) hT eH (rep_int _) (item_on hS s hM d2)
  exact ⟨s1, _, by rw [enum_get ds 0 i d d1, Int.zero_add], r1⟩
end
section
variable {X : Cx} {G : Ctx} {W : WX} {tg : Expr}
/-- one operand that is kept, then what follows -/
theorem take_read {K : PySem.W.Frag} {H0 H : Hp} {M0 A : AS} {env : Env} {σ : L2.St} {i : IR} {α : Type} {f : D → Env → R α} {P : α → Env → Hp → Prop} (E : EnvR K H0 M0 A env σ H) (q : Sat K H0 M0 A W ((ev G i env).take.bind f) env σ H P)
    {Q : VK} (k : ∀ d v e1 H1, EnvR K H0 M0 A e1 σ H1 → Rep K H1 (MM M0 e1 σ) d v → Stp (WW A env σ) H H1 → Sub σ env e1 → Sat K H0 M0 A W (f d e1) e1 σ H1 P → Q v H1) : tI G W K i σ H Q := by
  unfold R.take at q
  rw [R.bind_assoc] at q
  refine ⟨H0, M0, A, env, E, (Sat.bind q).mono fun o e1 H1 _ s1 u1 E1 h1 x hx => ?_⟩
  cases e : takeO e1 o with
  | none => rw [e] at h1; exact h1.elim
  | some p =>
    obtain ⟨d, e2⟩ := p
    rw [e] at h1
    obtain ⟨E2, rd, u2⟩ := E1.take hx e
    have h2 : Sat K H0 M0 A W (f d e2) e1 σ H1 P := h1
    exact k d x e2 H1 E2 rd s1 (u1.trans u2) (h2.sub u2)
def iSeq (K : PySem.W.Frag) (tl : TE) : TI := fun σ H R => tl σ H fun x H1 => ∃ a, x = .ref a ∧ (((∃ xs, SqL K H1 a xs) ∧ R (Itl K a) H1) ∨ ((∃ xs, SqT K H1 a xs) ∧ R (Itt K a) H1))
theorem pi_seq {l : Expr} {tl : TE} (hl : PE X l tl) : PI X tg l (iSeq X.K tl) := by
  refine ⟨fun pins s σ H R I h => thn (hl.run pins s σ H _ I h) fun w s1 got => ?_⟩
  obtain ⟨x, H1, J, rx, a, rfl, q⟩ := got
  have ew : w = Value.ref a := rx
  rw [ew]
  have new : ∀ b ∈ [s1.heap.objs.size], FpOk X pins H1 b := fun b hb => by
    have e : b = s1.heap.objs.size := by simpa using hb
    rw [e]
    exact J.fpOk (Nat.le_refl _) (J.hok.fresh (Nat.le_refl _))
  rcases q with ⟨⟨xs, hq⟩, q⟩ | ⟨⟨xs, hq⟩, q⟩
  · obtain ⟨its, _, p, _⟩ := J.list hq
    exact wpAny_pyIter_list p.isList ⟨_, [_], _, _, H1, rfl, J.kept (t' := s1.toks) (fun _ _ e => Heap.get?_push_of_some _ e), turn_list a _, ⟨_, Heap.get?_push_size _ rfl, rfl, rfl⟩, new, q⟩
  · obtain ⟨its, _, p, _⟩ := J.tuple hq
    exact wpAny_pyIter_tuple (show s1.heap.IsTuple a its.toArray from p) ⟨_, [_], _, _, H1, rfl, J.kept (t' := s1.toks) (fun _ _ e => Heap.get?_push_of_some _ e), turn_tuple a _, ⟨_, Heap.get?_push_size _ rfl, rfl, rfl⟩, new, q⟩
theorem i_seq {l : Expr} {i : IR} (hl : PE X l (tI G W X.K i)) : PI X tg l (tIi G W X.K (.seq i)) := PI.by_ (pi_seq hl) fun σ H R q => by
  obtain ⟨H0, M0, A, env, E, q⟩ := q
  rw [evi] at q
  refine take_read E q fun d v e1 H1 E1 rd s1 u1 h1 => ?_
  cases d with
  | lst ds =>
    unfold Rep at rd
    obtain ⟨a, xs, rfl, h, r⟩ := rd
    exact ⟨a, rfl, .inl ⟨⟨xs, h.l⟩, h1 H1 Stp.refl Sub.refl E1 _ (goes_list (WW.sub E1.aM) h r)⟩⟩
  | tup ds =>
    unfold Rep at rd
    obtain ⟨a, xs, rfl, nm, h, r⟩ := rd
    exact ⟨a, rfl, .inr ⟨⟨xs, Rd.t h⟩, h1 H1 Stp.refl Sub.refl E1 _ (goes_tup (WW.sub E1.aM) nm h r)⟩⟩
  | _ => exact h1.elim
theorem rd_read {K : PySem.W.Frag} {H0 H : Hp} {M0 A : AS} {env : Env} {σ : L2.St} {i : IR} {α : Type} {f : D → Env → R α} {P : α → Env → Hp → Prop} (E : EnvR K H0 M0 A env σ H) (q : Sat K H0 M0 A W ((ev G i env).rd.bind f) env σ H P)
    {Q : VK} (k : ∀ d v e1 H1, EnvR K H0 M0 A e1 σ H1 → RepT K H1 (MM M0 e1 σ) d v → Stp (WW A env σ) H H1 → Sub σ env e1 → Sat K H0 M0 A W (f d e1) e1 σ H1 P → Q v H1) : tI G W K i σ H Q := by
  unfold R.rd at q
  rw [R.bind_assoc] at q
  refine ⟨H0, M0, A, env, E, (Sat.bind q).mono fun o e1 H1 _ s1 u1 E1 h1 x hx => ?_⟩
  cases e : rdO e1 o with
  | none => rw [e] at h1; exact h1.elim
  | some d =>
    rw [e] at h1
    exact k d x e1 H1 E1 (hx.rdT E1 e) s1 u1 h1
theorem i_rng1 {a : Expr} {i : IR} {p pos : Pos} (hg : Gl X "range") (hm : X.mg "range" = none) (ha : PE X a (tI G W X.K i)) (hs : starB a = false) : PI X tg (.Call (.Name "range" p) [a] [] pos) (tIi G W X.K (.rng1 i)) :=
  PI.by_ (pi_range1 hg hm (pa_cons ha pa_nil (star_cons hs)) (star_cons hs)) fun σ H R q => by
    obtain ⟨H0, M0, A, env, E, q⟩ := q
    rw [evi] at q
    refine rd_read E q fun d v e1 H1 E1 rd s1 u1 h1 => ?_
    cases d with
    | int j =>
      rw [rd.int]
      have h1 : Sat X.K H0 M0 A W (if -1000000 ≤ j ∧ j ≤ 1000000 then Mp.R.ok (iotaD 0 j.toNat) e1 else .bad) e1 σ H1 (fun ds e1 H1 => ∀ J, Goes X.K (MM M0 e1 σ) (WW A e1 σ) H1 J ds → R J H1) := h1
      by_cases hj : -1000000 ≤ j ∧ j ≤ 1000000
      · rw [if_pos hj] at h1
        exact ⟨j, rfl, by omega, by omega, h1 H1 Stp.refl Sub.refl E1 _ goes_range⟩
      · rw [if_neg hj] at h1; exact h1.elim
    | _ => exact h1.elim
theorem i_enum {e : Expr} {i : IR} {p pos tpos : Pos} {elts : List Expr} {kk : Nat} (hg : Gl X "enumerate") (hm : X.mg "enumerate" = none) (ha : PE X e (tI G W X.K i)) (hs : starB e = false) : PI X (.Tuple elts kk tpos) (.Call (.Name "enumerate" p) [e] [] pos) (tIi G W X.K (.enum i)) :=
  PI.by_ (pi_enum hg hm (pa_cons ha pa_nil (star_cons hs)) (star_cons hs)) fun σ H R q => by
    obtain ⟨H0, M0, A, env, E, q⟩ := q
    rw [evi] at q
    refine take_read E q fun d v e1 H1 E1 rd s1 u1 h1 => ?_
    cases d with
    | lst ds =>
      unfold Rep at rd
      obtain ⟨a, xs, rfl, h, r⟩ := rd
      exact ⟨a, xs, rfl, h.l, h1 H1 Stp.refl Sub.refl E1 _ (goes_enum (WW.sub E1.aM) h r)⟩
    | _ => exact h1.elim
end
end Mp
set_option maxHeartbeats 4000000
namespace Mp
open PySem L2
variable [TabsW] [GdW]
section
variable {K : PySem.W.Frag} {H0 H H' : Hp} {M0 A : AS} {env env' : Env} {σ σ' : L2.St}
/-- some cells are dropped, some hold data anew -/
theorem EnvR.re (E : EnvR K H0 M0 A env σ H) (hl : env'.length = σ'.length) (h : ∀ (j : Nat) (c : Cell), env'[j]? = some (some c) → (env[j]? = some (some c) ∧ σ'[j]? = σ[j]?) ∨ ∃ d v, c = .dat d ∧ σ'[j]? = some (some v) ∧ Rep K H (MM M0 env σ) d v) :
    EnvR K H0 M0 A env' σ' H ∧ ∀ a, MutAt env' σ' a → MutAt env σ a := by
  have sub : ∀ a, MutAt env' σ' a → MutAt env σ a := fun a ⟨j, ds, e1, e2⟩ => by
    rcases h j _ e1 with ⟨a1, a2⟩ | ⟨d, v, z, _⟩
    · exact ⟨j, ds, a1, a2 ▸ e2⟩
    · cases z
  have subM : ∀ a, MM M0 env' σ' a → MM M0 env σ a := fun a z => z.elim .inl fun q => .inr (sub a q)
  refine ⟨⟨hl, E.old, E.alive, E.tb, E.m0, E.aM, E.a1, fun j d e1 => ?_, fun j ds e1 => ?_, fun j ds e1 => ?_, fun j k b ds es e1 e2 e3 e4 => ?_, fun j k ds es e1 e2 => ?_, fun j C ns ds e1 => ?_⟩, sub⟩
  · rcases h j _ e1 with ⟨a1, a2⟩ | ⟨d', v, z, s, r⟩
    · obtain ⟨v, b1, b2⟩ := E.dat j d a1
      exact ⟨v, by rw [a2]; exact b1, Rep.stp Stp.refl subM d v b2⟩
    · cases z
      exact ⟨v, s, Rep.stp Stp.refl subM d v r⟩
  · rcases h j _ e1 with ⟨a1, a2⟩ | ⟨d', v, z, s, r⟩
    · obtain ⟨a, xs, b1, b2, b3, b4⟩ := E.own j ds a1
      exact ⟨a, xs, by rw [a2]; exact b1, b2, RepL.stp Stp.refl subM ds xs b3, b4⟩
    · cases z
  · rcases h j _ e1 with ⟨a1, a2⟩ | ⟨d', v, z, s, r⟩
    · obtain ⟨a, xs, b1, b2, b3, b4⟩ := E.io j ds a1
      exact ⟨a, xs, by rw [a2]; exact b1, b2, b3, RepL.stp Stp.refl subM ds xs b4⟩
    · cases z
  · rcases h j _ e1 with ⟨a1, a2⟩ | ⟨d', v, z, s, r⟩
    · rcases h k _ e2 with ⟨b1, b2⟩ | ⟨d', v, z, s, r⟩
      · exact E.inj j k b ds es a1 b1 (a2 ▸ e3) (b2 ▸ e4)
      · cases z
    · cases z
  · rcases h j _ e1 with ⟨a1, a2⟩ | ⟨d', v, z, s, r⟩
    · rcases h k _ e2 with ⟨b1, b2⟩ | ⟨d', v, z, s, r⟩
      · exact E.io1 j k ds es a1 b1
      · cases z
    · cases z
  · rcases h j _ e1 with ⟨a1, a2⟩ | ⟨d', v, z, s, r⟩
    · exact E.slf j C ns ds a1
    · cases z
theorem wipeE_len : ∀ (is : List Nat), (wipeE env is).length = env.length
  | [] => rfl
  | i :: is => by unfold wipeE; rw [List.length_set, wipeE_len is]
theorem backE_len {old : Env} : ∀ (is : List Nat), (backE old env is).length = env.length
  | [] => rfl
  | i :: is => by unfold backE; rw [List.length_set, backE_len is]
theorem wipeE_get {j : Nat} {c : Cell} : ∀ {is : List Nat}, (wipeE env is)[j]? = some (some c) → j ∉ is ∧ env[j]? = some (some c)
  | [], h => ⟨by simp, h⟩
  | i :: is, h => by
    unfold wipeE at h
    by_cases hj : i = j
    · subst hj
      by_cases hl : i < (wipeE env is).length
      · rw [List.getElem?_set_self hl] at h; cases h
      · rw [List.getElem?_eq_none (by rw [List.length_set]; omega)] at h; cases h
    · rw [List.getElem?_set_ne hj] at h
      obtain ⟨a, b⟩ := wipeE_get h
      exact ⟨by simp only [List.mem_cons, not_or]; exact ⟨fun z => hj z.symm, a⟩, b⟩
theorem wipeE_out {j : Nat} : ∀ {is : List Nat}, j ∉ is → (wipeE env is)[j]? = env[j]?
  | [], _ => rfl
  | i :: is, h => by
    simp only [List.mem_cons, not_or] at h
    unfold wipeE
    rw [List.getElem?_set_ne (fun z => h.1 z.symm), wipeE_out h.2]
theorem wipe_out {j : Nat} : ∀ {is : List Nat}, j ∉ is → (wipe σ is)[j]? = σ[j]?
  | [], _ => rfl
  | i :: is, h => by
    simp only [List.mem_cons, not_or] at h
    unfold wipe
    rw [List.getElem?_set_ne (fun z => h.1 z.symm), wipe_out h.2]
theorem wipe_in {j : Nat} : ∀ {is : List Nat}, j ∈ is → j < σ.length → (wipe σ is)[j]? = some none
  | i :: is, h, hl => by
    unfold wipe
    by_cases hj : i = j
    · subst hj
      rw [List.getElem?_set_self (by rw [wipe_length]; exact hl)]
    · rw [List.getElem?_set_ne hj]
      rcases List.mem_cons.mp h with e | h
      · exact absurd e.symm hj
      · exact wipe_in h hl
theorem wipe_eq {is : List Nat} (hl : σ.length = σ'.length) (h : ∀ j, j ∉ is → σ'[j]? = σ[j]?) : wipe σ' is = wipe σ is := by
  apply List.ext_getElem?
  intro j
  by_cases hj : j ∈ is
  · by_cases hlt : j < σ.length
    · rw [wipe_in hj hlt, wipe_in hj (by omega)]
    · rw [List.getElem?_eq_none (by rw [wipe_length]; omega), List.getElem?_eq_none (by rw [wipe_length]; omega)]
  · rw [wipe_out hj, wipe_out hj, h j hj]
theorem backE_get {old : Env} {j : Nat} {c : Cell} : ∀ {is : List Nat}, (backE old env is)[j]? = some (some c) → (j ∉ is ∧ env[j]? = some (some c)) ∨ (j ∈ is ∧ old[j]? = some (some c))
  | [], h => .inl ⟨by simp, h⟩
  | i :: is, h => by
    unfold backE at h
    by_cases hj : i = j
    · subst hj
      by_cases hl : i < (backE old env is).length
      · rw [List.getElem?_set_self hl] at h
        refine .inr ⟨by simp, ?_⟩
        cases e : old[i]? with
        | none => rw [e] at h; cases h
        | some o => rw [e] at h; cases h; rfl
      · rw [List.getElem?_eq_none (by rw [List.length_set]; omega)] at h; cases h
    · rw [List.getElem?_set_ne hj] at h
      rcases backE_get h with ⟨a, b⟩ | ⟨a, b⟩
      · exact .inl ⟨by simp only [List.mem_cons, not_or]; exact ⟨fun z => hj z.symm, a⟩, b⟩
      · exact .inr ⟨List.mem_cons_of_mem _ a, b⟩
theorem backE_in {old : Env} {j : Nat} {c : Cell} : ∀ {is : List Nat}, j ∈ is → j < env.length → old[j]? = some (some c) → (backE old env is)[j]? = some (some c)
  | i :: is, h, hl, e => by
    unfold backE
    by_cases hj : i = j
    · subst hj
      rw [List.getElem?_set_self (by rw [backE_len]; exact hl), e] <;> rfl
    · rw [List.getElem?_set_ne hj]
      rcases List.mem_cons.mp h with z | h
      · exact absurd z.symm hj
      · exact backE_in h hl e
theorem backE_out {old : Env} {j : Nat} : ∀ {is : List Nat}, j ∉ is → (backE old env is)[j]? = env[j]?
  | [], _ => rfl
  | i :: is, h => by
    simp only [List.mem_cons, not_or] at h
    unfold backE
    rw [List.getElem?_set_ne (fun z => h.1 z.symm), backE_out h.2]
/-- one slot holds data anew -/
theorem EnvR.setDat (E : EnvR K H0 M0 A env σ H) {i : Nat} {d : D} {v : V} (hi : i < env.length) (r : Rep K H (MM M0 env σ) d v) : EnvR K H0 M0 A (env.set i (some (.dat d))) (σ.set i (some v)) H ∧ ∀ a, MutAt (env.set i (some (.dat d))) (σ.set i (some v)) a → MutAt env σ a := by
  refine E.re (by rw [List.length_set, List.length_set]; exact E.len) fun j c h => ?_
  by_cases hj : i = j
  · subst hj
    rw [List.getElem?_set_self hi] at h
    cases h
    exact .inr ⟨d, v, rfl, by rw [List.getElem?_set_self (by rw [← E.len]; exact hi)], r⟩
  · rw [List.getElem?_set_ne hj] at h
    exact .inl ⟨h, by rw [List.getElem?_set_ne hj]⟩
theorem free_lt {i : Nat} (h : freeB env i = true) : i < env.length := by
  unfold freeB at h
  cases e : env[i]? with
  | none => rw [e] at h; cases h
  | some o => exact (List.getElem?_eq_some_iff.mp e).1
def gNames : List Nat → TGs
  | [] => gNil
  | i :: is => gCons (gName i) (gNames is)
def gT (K : PySem.W.Frag) : Tgt → TG
  | .name i => gName i
  | .tup is => gTup K is.length (gNames is)
theorem names_read : ∀ (is : List Nat) (ds : List D) (xs : List V) (env : Env) (σ : L2.St) (P : L2.St → Hp → Prop), EnvR K H0 M0 A env σ H → is.all (freeB env) = true → ds.length = is.length → RepL K H (MM M0 env σ) ds xs →
    (∀ σ', EnvR K H0 M0 A ((is.zip ds).foldl (fun e p => e.set p.1 (some (.dat p.2))) env) σ' H → (∀ a, MutAt ((is.zip ds).foldl (fun e p => e.set p.1 (some (.dat p.2))) env) σ' a → MutAt env σ a) → σ'.length = σ.length → (∀ j, j ∉ is → σ'[j]? = σ[j]?) → P σ' H) → gNames is xs σ H P
  | [], ds, xs, env, σ, P, E, hf, hl, r, k => by
    have : ds = [] := by cases ds <;> simp_all
    subst this
    unfold RepL at r
    exact ⟨r, k σ E (fun _ z => z) rfl fun _ _ => rfl⟩
  | i :: is, [], xs, env, σ, P, E, hf, hl, r, k => by simp at hl
  | i :: is, d :: ds, xs, env, σ, P, E, hf, hl, r, k => by
    unfold RepL at r
    obtain ⟨x, ys, rfl, r1, r2⟩ := r
    rw [List.all_cons, Bool.and_eq_true] at hf
    have hi := free_lt hf.1
    obtain ⟨E1, u1⟩ := E.setDat hi r1
    refine ⟨x, ys, rfl, ?_⟩
    have hfree : is.all (freeB (env.set i (some (.dat d)))) = true := by
      rw [List.all_eq_true]
      intro j hj
      have := (List.all_eq_true.mp hf.2) j hj
      unfold freeB at this ⊢
      by_cases h : i = j
      · subst h; rw [List.getElem?_set_self hi]
      · rw [List.getElem?_set_ne h]; exact this
    refine names_read is ds ys (env.set i (some (.dat d))) (σ.set i (some x)) P E1 hfree (by simpa using hl) (RepL.stp Stp.refl (fun a z => z.elim .inl fun q => .inr (u1 a q)) ds ys r2) fun σ' E' u' l' o' => ?_
    refine k σ' E' (fun a z => u1 a (u' a z)) (by rw [l', List.length_set]) fun j hj => ?_
    simp only [List.mem_cons, not_or] at hj
    rw [o' j hj.2, List.getElem?_set_ne (fun z => hj.1 z.symm)]
theorem tgt_read {tg : Tgt} {d : D} {v : V} (E : EnvR K H0 M0 A env σ H) (hb : bindT tg d env = some env') (r : Rep K H (MM M0 env σ) d v) {P : L2.St → Hp → Prop}
    (k : ∀ σ', EnvR K H0 M0 A env' σ' H → (∀ a, MutAt env' σ' a → MutAt env σ a) → σ'.length = σ.length → (∀ j, j ∉ tgOwn tg → σ'[j]? = σ[j]?) → P σ' H) : gT K tg v σ H P := by
  cases tg with
  | name i =>
    unfold bindT at hb
    dsimp only at hb
    by_cases hf : freeB env i = true
    · rw [if_pos hf] at hb
      cases hb
      obtain ⟨E1, u1⟩ := E.setDat (free_lt hf) r
      refine k _ E1 u1 List.length_set fun j hj => ?_
      unfold tgOwn at hj
      rw [List.getElem?_set_ne (fun z => hj (by simp [z]))]
    · rw [if_neg hf] at hb; cases hb
  | tup is =>
    unfold bindT at hb
    dsimp only at hb
    cases d with
    | tup ds =>
      dsimp only at hb
      by_cases hc : ds.length = is.length ∧ is.all (freeB env) = true
      · rw [if_pos hc] at hb
        cases hb
        unfold Rep at r
        obtain ⟨a, xs, rfl, nm, h, rr⟩ := r
        exact ⟨a, xs, rfl, Rd.t h, by rw [← rr.length]; exact hc.1, names_read is ds xs env σ P E hc.2 hc.1 rr k⟩
      · rw [if_neg hc] at hb; cases hb
    | _ => cases hb
theorem foldl_out {j : Nat} : ∀ {is : List Nat} {ds : List D} {env : Env}, j ∉ is → ((is.zip ds).foldl (fun e p => e.set p.1 (some (Cell.dat p.2))) env)[j]? = env[j]?
  | [], ds, env, _ => rfl
  | i :: is, [], env, _ => rfl
  | i :: is, d :: ds, env, h => by
    simp only [List.mem_cons, not_or] at h
    show ((is.zip ds).foldl (fun e p => e.set p.1 (some (Cell.dat p.2))) (env.set i (some (Cell.dat d))))[j]? = env[j]?
    rw [foldl_out h.2, List.getElem?_set_ne (fun z => h.1 z.symm)]
theorem foldl_len : ∀ {is : List Nat} {ds : List D} {env : Env}, ((is.zip ds).foldl (fun e p => e.set p.1 (some (Cell.dat p.2))) env).length = env.length
  | [], ds, env => rfl
  | i :: is, [], env => rfl
  | i :: is, d :: ds, env => by
    show ((is.zip ds).foldl (fun e p => e.set p.1 (some (Cell.dat p.2))) (env.set i (some (Cell.dat d)))).length = env.length
    rw [foldl_len, List.length_set]
theorem bind_out {tg : Tgt} {d : D} {env env1 : Env} (h : bindT tg d env = some env1) : (∀ j, j ∉ tgOwn tg → env1[j]? = env[j]?) ∧ env1.length = env.length := by
  cases tg with
  | name i =>
    unfold bindT at h
    dsimp only at h
    by_cases hf : freeB env i = true
    · rw [if_pos hf] at h; cases h
      refine ⟨fun j hj => ?_, List.length_set⟩
      unfold tgOwn at hj
      rw [List.getElem?_set_ne (fun z => hj (by simp [z]))]
    · rw [if_neg hf] at h; cases h
  | tup is =>
    unfold bindT at h
    dsimp only at h
    cases d with
    | tup ds =>
      dsimp only at h
      by_cases hc : ds.length = is.length ∧ is.all (freeB env) = true
      · rw [if_pos hc] at h; cases h
        exact ⟨fun j hj => foldl_out hj, foldl_len⟩
      · rw [if_neg hc] at h; cases h
    | _ => cases h
end
end Mp
set_option maxHeartbeats 4000000
namespace Mp
open PySem L2
variable [TabsW] [GdW]
def wNo : WX := fun _ _ _ _ => False
section
variable {K : PySem.W.Frag} {H0 H H' : Hp} {M0 A : AS} {env env' : Env} {σ σ' : L2.St} {W W' : WX}
theorem Sat.noExc {α : Type} {r : R α} {P : α → Env → Hp → Prop} (h : Sat K H0 M0 A W (Mp.noExc r) env σ H P) : Sat K H0 M0 A W' r env σ H P := by
  cases r with
  | bad => exact h
  | exc C n d e => exact h.elim
  | ok o e => exact h
/-- one more address set apart: it is new -/
theorem EnvR.apart (E : EnvR K H0 M0 A env σ H) {p : Addr} {o : HO} (hp : H p = none) (ho : NT o := by first | exact nt_lst | exact nt_ins | exact nt_tup) : EnvR K H0 (fun a => M0 a ∨ a = p) A env σ (upd H p o) := by
  have E' := E.new (o := o) hp
  obtain ⟨n1, n2⟩ := E.fresh hp
  have g : ∀ x, MM (fun a => M0 a ∨ a = p) env σ x → MM M0 env σ x ∨ ¬ Lv H x := fun x z => by
    rcases z with (z | z) | z
    · exact .inl (.inl z)
    · exact .inr (by rw [z]; exact nn_of hp)
    · exact .inl (.inr z)
  have st : Stp (fun _ : Addr => False) H (upd H p o) := Stp.new hp
  refine ⟨E.len, E'.old, E'.alive, E'.tb, fun a h => ?_, fun a h => .inl (E.aM a h), E.a1, fun i d h => ?_, fun i ds h => ?_, fun i ds h => ?_, E.inj, E.io1, E.slf⟩
  · rcases h with h | h
    · exact E'.m0 a h
    · rw [h]; exact ⟨o, upd_same, ho⟩
  · obtain ⟨v, a1, a2⟩ := E.dat i d h
    exact ⟨v, a1, Rep.stp (Stp.new hp) (fun _ z => z) d v (Rep.grow g d v a2)⟩
  · obtain ⟨a, xs, a1, a2, a3, a4, a5⟩ := E.own i ds h
    refine ⟨a, xs, a1, by rw [upd_ne (ne_of_none a2 hp)]; exact a2, RepL.stp (Stp.new hp) (fun _ z => z) ds xs (RepL.grow g ds xs a3), fun z => ?_, a5⟩
    rcases z with z | z
    · exact a4 z
    · exact ne_of_none a2 hp z
  · obtain ⟨a, xs, a1, a2, a3, a4⟩ := E.io i ds h
    exact ⟨a, xs, a1, a2, by rw [upd_ne (ne_of_none a3 hp)]; exact a3, RepL.stp (Stp.new hp) (fun _ z => z) ds xs (RepL.grow g ds xs a4)⟩
/-- what stands apart may change -/
theorem EnvR.setM (E : EnvR K H0 M0 A env σ H) {p : Addr} {o : HO} (hpl : ∀ u, H p = some u → Pl u) (hp : M0 p) (ha : ¬ A p) (h0 : ¬ Lv H0 p) (ho : NT o := by first | exact nt_lst | exact nt_ins | exact nt_tup) : EnvR K H0 M0 A env σ (upd H p o) := by
  have st : Stp (MM M0 env σ) H (upd H p o) := Stp.set (.inl hp) hpl ho
  refine ⟨E.len, fun a u e n t => ?_, fun a h => mo_upd ho a (E.alive a h), fun P q h => tab_upd hpl P q (E.tb P q h), fun a h => mo_upd ho a (E.m0 a h), E.aM, E.a1, fun i d h => ?_, fun i ds h => ?_, fun i ds h => ?_, E.inj, E.io1, E.slf⟩
  · rw [upd_ne (fun z => h0 ⟨u, by rw [← z]; exact e, t⟩)]
    exact E.old a u e n t
  · obtain ⟨v, a1, a2⟩ := E.dat i d h
    exact ⟨v, a1, Rep.stp st (fun _ z => z) d v a2⟩
  · obtain ⟨a, xs, a1, a2, a3, a4, a5⟩ := E.own i ds h
    exact ⟨a, xs, a1, by rw [upd_ne (fun z => a4 (by rw [z]; exact hp))]; exact a2, RepL.stp st (fun _ z => z) ds xs a3, a4, a5⟩
  · obtain ⟨a, xs, a1, a2, a3, a4⟩ := E.io i ds h
    exact ⟨a, xs, a1, a2, by rw [upd_ne (fun z => ha (by rw [← z]; exact a2))]; exact a3, RepL.stp st (fun _ z => z) ds xs a4⟩
/-- less is set apart -/
theorem EnvR.less {M1 : AS} (E : EnvR K H0 M0 A env σ H) (h : ∀ a, M1 a → M0 a) (hA : ∀ a, A a → M1 a) : EnvR K H0 M1 A env σ H := by
  have g : ∀ x, MM M1 env σ x → MM M0 env σ x := fun x z => z.elim (fun q => .inl (h x q)) .inr
  refine ⟨E.len, E.old, E.alive, E.tb, fun a z => E.m0 a (h a z), hA, E.a1, fun i d e => ?_, fun i ds e => ?_, fun i ds e => ?_, E.inj, E.io1, E.slf⟩
  · obtain ⟨v, a1, a2⟩ := E.dat i d e
    exact ⟨v, a1, Rep.stp Stp.refl g d v a2⟩
  · obtain ⟨a, xs, a1, a2, a3, a4, a5⟩ := E.own i ds e
    exact ⟨a, xs, a1, a2, RepL.stp Stp.refl g ds xs a3, fun z => a4 (h a z), a5⟩
  · obtain ⟨a, xs, a1, a2, a3, a4⟩ := E.io i ds e
    exact ⟨a, xs, a1, a2, a3, RepL.stp Stp.refl g ds xs a4⟩
/-- some slots are hidden -/
theorem EnvR.wipe (E : EnvR K H0 M0 A env σ H) (is : List Nat) : EnvR K H0 M0 A (wipeE env is) (L2.wipe σ is) H ∧ ∀ a, MutAt (wipeE env is) (L2.wipe σ is) a → MutAt env σ a :=
  E.re (by rw [wipeE_len, wipe_length]; exact E.len) fun j c h => by
    obtain ⟨a, b⟩ := wipeE_get h
    exact .inl ⟨b, wipe_out a⟩
end
section
variable {X : Cx} {G : Ctx} {W : WX}
def tIf' (G : Ctx) (W : WX) (K : PySem.W.Frag) : Option IR → TT
  | none => tYes
  | some t => tIt G W K t
theorem lc_run {own : List Nat} {tg : Tgt} {T : Option (Env → R Bool)} {ee : Env → R D} {d : D} {ds : List D} {env : Env} {xs : List D} {e2 : Env} (h : lcLoop own tg T ee (d :: ds) env = .ok xs e2) :
    ∃ env1 b env2, bindT tg d (wipeE env own) = some env1 ∧ ((T = none ∧ b = true ∧ env2 = env1) ∨ ∃ t, T = some t ∧ t env1 = .ok b env2) ∧
        ((b = true ∧ ∃ x env3 ys, ee env2 = .ok x env3 ∧ lcLoop own tg T ee ds env3 = .ok ys e2 ∧ xs = x :: ys) ∨ (b = false ∧ lcLoop own tg T ee ds env2 = .ok xs e2)) := by
  unfold lcLoop at h
  cases hb : bindT tg d (wipeE env own) with
  | none => rw [hb] at h; cases h
  | some env1 =>
    rw [hb] at h
    dsimp only at h
    have main : ∀ (r : R Bool), (r.bind fun b env2 => if b = true then (ee env2).bind fun x env3 => (lcLoop own tg T ee ds env3).bind fun xs env4 => .ok (x :: xs) env4 else lcLoop own tg T ee ds env2) = .ok xs e2 →
        ∃ b env2, r = .ok b env2 ∧ ((b = true ∧ ∃ x env3 ys, ee env2 = .ok x env3 ∧ lcLoop own tg T ee ds env3 = .ok ys e2 ∧ xs = x :: ys) ∨ (b = false ∧ lcLoop own tg T ee ds env2 = .ok xs e2)) := fun r h => by
      cases r with
      | bad => cases h
      | exc C f d e => cases h
      | ok b env2 =>
        refine ⟨b, env2, rfl, ?_⟩
        cases b with
        | false => exact .inr ⟨rfl, h⟩
        | true =>
          have h : ((ee env2).bind fun x env3 => (lcLoop own tg T ee ds env3).bind fun xs env4 => R.ok (x :: xs) env4) = .ok xs e2 := h
          refine .inl ⟨rfl, ?_⟩
          cases h1 : ee env2 with
          | bad => rw [h1] at h; cases h
          | exc C f d e => rw [h1] at h; cases h
          | ok x env3 =>
            rw [h1] at h
            have h : ((lcLoop own tg T ee ds env3).bind fun xs env4 => R.ok (x :: xs) env4) = .ok xs e2 := h
            cases h2 : lcLoop own tg T ee ds env3 with
            | bad => rw [h2] at h; cases h
            | exc C f d e => rw [h2] at h; cases h
            | ok ys e4 => rw [h2] at h; cases h; exact ⟨x, env3, ys, rfl, h2, rfl⟩
    cases T with
    | none =>
      obtain ⟨b, env2, e1, e3⟩ := main (R.ok true env1) h
      cases e1
      exact ⟨env1, true, env1, rfl, .inl ⟨rfl, rfl, rfl⟩, e3⟩
    | some t =>
      obtain ⟨b, env2, e1, e3⟩ := main (t env1) h
      exact ⟨env1, b, env2, rfl, .inr ⟨t, rfl, e1⟩, e3⟩
def tsF (G : Ctx) : Option IR → Option (Env → R Bool)
  | none => none
  | some t => some fun x => truR (ev G t x)
/-- the state between two turns -/
structure LcAt (G : Ctx) (K : PySem.W.Frag) (H0 H1 : Hp) (M0 A : AS) (e1 : Env) (σ : L2.St) (own : List Nat) (tg : Tgt) (t : Option IR) (e : IR) (Dl : Addr) (ds xs : List D) (e2 : Env) (i : Nat) (H : Hp) : Prop where
  ex : ∃ (envI : Env) (acc rest : List D) (ys : List V), H Dl = some (.lst ys) ∧ ys.length ≤ i ∧ EnvR K H0 (fun a => M0 a ∨ a = Dl) A (wipeE envI own) (L2.wipe σ own) H ∧ RepL K H (MM (fun a => M0 a ∨ a = Dl) (wipeE envI own) (L2.wipe σ own)) acc ys ∧
    xs = acc ++ rest ∧ lcLoop own tg (tsF G t) (fun x => (ev G e x).take) (ds.drop i) envI = .ok rest e2 ∧ Stp (WW A e1 σ) H1 H ∧ (∀ a, MutAt (wipeE envI own) (L2.wipe σ own) a → MutAt e1 σ a) ∧
    (∀ (j : Nat) (c : Cell), j ∉ own → e1[j]? = some (some c) → ∃ c', envI[j]? = some (some c')) ∧ (∀ (j : Nat) (ds : List D), j ∉ own → envI[j]? = some (some (Cell.io ds)) → ∃ es, e1[j]? = some (some (Cell.io es))) ∧ envI.length = e1.length
theorem lc_reads {K : PySem.W.Frag} {H0 H1 : Hp} {M0 A : AS} {e1 : Env} {σ : L2.St} {own : List Nat} {tg : Tgt} {t : Option IR} {e : IR} {ds xs : List D} {e2 : Env} {Q : VK} {J : L2.It} {Dl : Addr} (E1 : EnvR K H0 M0 A e1 σ H1) (hown : ∀ j, j ∈ tgOwn tg → j ∈ own) (hide : own.all (hideB e1) = true)
    (gJ : Goes K (MM M0 e1 σ) (WW A e1 σ) H1 J ds) (hD : H1 Dl = none) (hlen : ds.length ≤ BIG) (hrun : lcLoop own tg (tsF G t) (fun x => (ev G e x).take) ds e1 = .ok xs e2)
    (fin : ∀ H', Stp (WW A e1 σ) H1 H' → Sub σ e1 (backE e1 e2 own) → EnvR K H0 M0 A (backE e1 e2 own) σ H' → Rep K H' (MM M0 (backE e1 e2 own) σ) (.lst xs) (.ref Dl) → Q (.ref Dl) H') :
    ∃ Wd : Nat → Nat → Hp → Prop, (∃ m, Wd 0 m (upd H1 Dl (.lst []))) ∧ ∀ i m H, Wd i m H →
      (J.stop i H ∧ Q (.ref Dl) H) ∨ (J.go i H ∧ ∃ Nx : Hp → Prop, (∀ H', Nx H' → ∃ m', m' < m ∧ Wd (i + 1) m' H') ∧ ∀ x H', J.yld i H x H' → gT K tg x (L2.wipe σ own) H' fun σ2 H2 => L2.wipe σ2 own = L2.wipe σ own ∧ tIf' G wNo K t σ2 H2 fun b H3 =>
        if b = true then tI G wNo K e σ2 H3 fun y H4 => ∃ acc, H4 Dl = some (.lst acc) ∧ acc.length < sizeLine ∧ Nx (upd H4 Dl (.lst (acc ++ [y]))) else Nx H3) := by
  obtain ⟨Gd, Y, wk, hGd, hY⟩ := gJ
  have hs : sizeLine = 16777216 := sizeLine_eq
  have fr := E1.fresh hD
  have nA : ¬ A Dl := fun z => (E1.m0 Dl (E1.aM Dl z)).ne hD
  refine lc_it wk (LcAt G K H0 H1 M0 A e1 σ own tg t e Dl ds xs e2) ⟨e1, [], xs, [], upd_same, Nat.zero_le _, ((E1.wipe own).1).apart hD, RepL.nil, rfl, hrun, Stp.new hD, (E1.wipe own).2, fun j c _ h => ⟨c, h⟩, fun j ds _ h => ⟨ds, h⟩, rfl⟩ (fun i H _ p => ?_) (fun i x H H' hi p y => ?_) fun H p => ?_
  · obtain ⟨_, _, _, _, _, _, _, _, _, _, s, _⟩ := p.ex
    exact hGd H s
  · obtain ⟨envI, acc, rest, ys, hH, hyl, EI, rI, ex, run, s, mI, th, iom, el⟩ := p.ex
    have hM : ∀ a, MM (fun a => M0 a ∨ a = Dl) (wipeE envI own) (L2.wipe σ own) a → (MM M0 e1 σ a ∨ ¬ Lv H1 a) ∧ Lv H a := fun a z => by
      refine ⟨?_, ?_⟩
      · rcases z with (z | z) | z
        · exact .inl (.inl z)
        · exact .inr (by rw [z]; exact nn_of hD)
        · exact .inl (.inr (mI a z))
      · rcases z with z | ⟨j, es, z1, z2⟩
        · exact EI.m0 a z
        · obtain ⟨b, zs, b1, b2, _⟩ := EI.own j es z1
          rw [z2] at b1; cases b1
          exact Lv.lst b2
    obtain ⟨st, d, hd, rd⟩ := hY i H x H' _ hi s hM y
    have hdrop : ds.drop i = d :: ds.drop (i + 1) := by
      rw [List.drop_eq_getElem_cons hi]
      congr 1
      have := List.getElem?_eq_getElem hi
      rw [hd] at this; exact (Option.some.inj this).symm
    rw [hdrop] at run
    obtain ⟨env1, b, env2, hb, ht, hr⟩ := lc_run run
    have EI' := EI.keep st
    have wl : (L2.wipe σ own).length = σ.length := wipe_length σ own
    -- the target
    refine tgt_read EI' hb rd fun σ' E' u' l' o' => ?_
    have hw : L2.wipe σ' own = L2.wipe σ own := by
      have : L2.wipe σ' own = L2.wipe (L2.wipe σ own) own := wipe_eq l'.symm fun j hj => o' j fun z => hj (hown j z)
      rw [this]
      exact wipe_eq wl.symm fun j hj => wipe_out hj
    refine ⟨hw, ?_⟩
    have nDl : ∀ {ev : Env} {τ : L2.St} {h : Hp}, EnvR K H0 (fun a => M0 a ∨ a = Dl) A ev τ h → ¬ WW A ev τ Dl := fun {ev τ h} E z => by
      rcases z with z | ⟨j, es, z1, z2⟩
      · exact nA z
      · obtain ⟨b, zs, b1, _, _, b4, _⟩ := E.own j es z1
        rw [z2] at b1; cases b1
        exact b4 (.inr rfl)
    have wI : ∀ a, WW A env1 σ' a → MM (fun a => M0 a ∨ a = Dl) (wipeE envI own) (L2.wipe σ own) a := fun a z => z.elim (fun q => .inl (.inl (E1.aM a q))) fun q => .inr (u' a q)
    have w1 : ∀ a, WW A env1 σ' a → WW A e1 σ a := fun a z => z.elim .inl fun q => .inr (mI a (u' a q))
    have cellOut : ∀ j, j ∉ own → env1[j]? = envI[j]? := fun j hj => by rw [(bind_out hb).1 j fun z => hj (hown j z), wipeE_out hj]
    have lenOut : env1.length = envI.length := by rw [(bind_out hb).2, wipeE_len]
    -- behind the test
    have cont : ∀ H3, Stp (WW A env1 σ') H' H3 → Sub σ' env1 env2 → EnvR K H0 (fun a => M0 a ∨ a = Dl) A env2 σ' H3 → if b = true then tI G wNo K e σ' H3 (fun y H4 => ∃ acc, H4 Dl = some (.lst acc) ∧ acc.length < sizeLine ∧ LcAt G K H0 H1 M0 A e1 σ own tg t e Dl ds xs e2 (i + 1) (upd H4 Dl (.lst (acc ++ [y]))))
        else LcAt G K H0 H1 M0 A e1 σ own tg t e Dl ds xs e2 (i + 1) H3 := fun H3 s2 u2 E2 => by
      have hH3 : H3 Dl = some (.lst ys) := s2.st Dl _ (st.st Dl _ hH id nt_lst) (nDl E') nt_lst
      have t3 : Stp (MM (fun a => M0 a ∨ a = Dl) (wipeE envI own) (L2.wipe σ own)) H H3 := st.no.trans (s2.weak wI)
      have t3' : Stp (WW A e1 σ) H1 H3 := (s.trans st.no).trans (s2.weak w1)
      rcases hr with ⟨rfl, x0, env3, ys', he, hrun', hxs⟩ | ⟨rfl, hrun'⟩
      · rw [if_pos rfl]
        refine take_read (f := fun d e => .ok d e) (P := fun d e _ => d = x0 ∧ e = env3) E2 (by rw [he]; exact fun _ _ _ _ => ⟨rfl, rfl⟩) fun d' v e' H4 E4 rd4 s4 u4 h4 => ?_
        obtain ⟨rfl, rfl⟩ := h4 H4 Stp.refl Sub.refl E4
        have hH4 : H4 Dl = some (.lst ys) := s4.st Dl _ hH3 (nDl E2) nt_lst
        refine ⟨ys, hH4, by unfold BIG at hlen; omega, ?_⟩
        have E5 := (E4.setM (o := .lst (ys ++ [v])) (pl_at hH4) (.inr rfl) nA fr.2).wipe own
        rw [hw] at E5
        have m5 : ∀ a, MutAt (wipeE e' own) (L2.wipe σ own) a → MutAt (wipeE envI own) (L2.wipe σ own) a := fun a z => u' a (u2.own a (u4.own a (E5.2 a z)))
        have M5 : ∀ a, MM (fun a => M0 a ∨ a = Dl) (wipeE e' own) (L2.wipe σ own) a → MM (fun a => M0 a ∨ a = Dl) (wipeE envI own) (L2.wipe σ own) a := fun a z => z.elim .inl fun q => .inr (m5 a q)
        have w2 : ∀ a, WW A env2 σ' a → WW A env1 σ' a := fun a z => z.elim .inl fun q => .inr (u2.own a q)
        have t4 := t3.trans (s4.weak fun a z => wI a (w2 a z))
        have t4' := t3'.trans (s4.weak fun a z => w1 a (w2 a z))
        refine ⟨e', acc ++ [d'], ys', ys ++ [v], upd_same, by rw [List.length_append]; simp only [List.length_singleton]; omega, E5.1, ?_, by rw [ex, hxs, List.append_assoc]; rfl, hrun', ⟨fun a o h n t => ?_, fun a h => mo_upd nt_lst a (t4'.mo a h), fun P q m h => tab_upd (pl_at hH4) P q (t4'.tb P q m h)⟩, fun a z => mI a (m5 a z), fun j c hj h => ?_, fun j es hj h => ?_, ?_⟩
        · refine RepL.append ?_ (RepL.cons ?_ RepL.nil)
          · exact RepL.stp (t4.trans (Stp.set (.inl (.inr rfl)) (pl_at hH4))) M5 acc ys rI
          · exact Rep.stp (M := MM (fun a => M0 a ∨ a = Dl) e' σ') (Stp.set (.inl (.inr rfl)) (pl_at hH4)) (fun a z => z.elim .inl fun q => .inr (E5.2 a q)) d' v rd4
        · rw [upd_ne (ne_of_none h hD)]
          exact t4'.st a o h n t
        · obtain ⟨c1, h1⟩ := th j c hj h
          obtain ⟨c2, h2⟩ := u2.there j c1 (by rw [cellOut j hj]; exact h1)
          exact u4.there j c2 h2
        · obtain ⟨es2, h2⟩ := u4.io j es h
          obtain ⟨es1, h1⟩ := u2.io j es2 h2
          rw [cellOut j hj] at h1
          exact iom j es1 hj h1
        · rw [u4.len, u2.len, lenOut, el]
      · rw [if_neg Bool.false_ne_true]
        have E5 := E2.wipe own
        rw [hw] at E5
        have m5 : ∀ a, MutAt (wipeE env2 own) (L2.wipe σ own) a → MutAt (wipeE envI own) (L2.wipe σ own) a := fun a z => u' a (u2.own a (E5.2 a z))
        have M5 : ∀ a, MM (fun a => M0 a ∨ a = Dl) (wipeE env2 own) (L2.wipe σ own) a → MM (fun a => M0 a ∨ a = Dl) (wipeE envI own) (L2.wipe σ own) a := fun a z => z.elim .inl fun q => .inr (m5 a q)
        refine ⟨env2, acc, rest, ys, hH3, by omega, E5.1, RepL.stp t3 M5 acc ys rI, ex, hrun', t3', fun a z => mI a (m5 a z), fun j c hj h => ?_, fun j es hj h => ?_, ?_⟩
        · obtain ⟨c1, h1⟩ := th j c hj h
          exact u2.there j c1 (by rw [cellOut j hj]; exact h1)
        · obtain ⟨es1, h1⟩ := u2.io j es h
          rw [cellOut j hj] at h1
          exact iom j es1 hj h1
        · rw [u2.len, lenOut, el]
    rcases ht with ⟨z1, rfl, rfl⟩ | ⟨t0, z1, z2⟩
    · have tn : t = none := by cases t with
        | none => rfl
        | some _ => cases z1
      subst tn
      exact cont H' Stp.refl Sub.refl E'
    · cases t with
      | none => cases z1
      | some t' =>
        cases z1
        exact ⟨H0, _, A, env1, E', by (have z3 : truR (ev G t' env1) = .ok b env2 := z2); rw [z3]; exact fun H3 s2 u2 E2 => cont H3 s2 u2 E2⟩
  · obtain ⟨envI, acc, rest, ys, hH, hyl, EI, rI, ex, run, s, mI, th, iom, el⟩ := p.ex
    rw [List.drop_length] at run
    unfold lcLoop at run
    cases run
    have hD' : ∀ j, j ∈ own → e1[j]? = some none ∨ ∃ d, e1[j]? = some (some (.dat d)) := fun j hj => by
      have h := (List.all_eq_true.mp hide) j hj
      unfold hideB at h
      cases q : e1[j]? with
      | none => rw [q] at h; cases h
      | some o =>
        rw [q] at h
        cases o with
        | none => exact .inl rfl
        | some c =>
          cases c with
          | dat d => exact .inr ⟨d, rfl⟩
          | _ => cases h
    have mB : ∀ a, MutAt (backE e1 e2 own) σ a → MutAt (wipeE e2 own) (L2.wipe σ own) a := fun a ⟨j, es, z1, z2⟩ => by
      rcases backE_get z1 with ⟨b1, b2⟩ | ⟨b1, b2⟩
      · exact ⟨j, es, by rw [wipeE_out b1]; exact b2, by rw [wipe_out b1]; exact z2⟩
      · rcases hD' j b1 with c1 | ⟨d, c1⟩ <;> (rw [c1] at b2; cases b2)
    obtain ⟨E2, _⟩ := EI.re (env' := backE e1 e2 own) (σ' := σ) (by rw [backE_len, el]; exact E1.len) fun j c h => by
      rcases backE_get h with ⟨b1, b2⟩ | ⟨b1, b2⟩
      · exact .inl ⟨by rw [wipeE_out b1]; exact b2, (wipe_out b1).symm⟩
      · rcases hD' j b1 with c1 | ⟨d, c1⟩
        · rw [c1] at b2; cases b2
        · rw [c1] at b2; cases b2
          obtain ⟨v, v1, v2⟩ := E1.dat j d c1
          refine .inr ⟨d, v, rfl, v1, ?_⟩
          have g : Rep K H1 (fun a => MM M0 e1 σ a ∨ a = Dl) d v := Rep.grow (fun a z => z.elim .inl fun q => .inr (by rw [q]; exact nn_of hD)) d v v2
          refine Rep.stp (s.weak fun a z => .inl (WW.sub E1.aM a z)) (fun a z => ?_) d v g
          rcases z with (z | z) | z
          · exact .inl (.inl z)
          · exact .inr z
          · exact .inl (.inr (mI a z))
    have E3 := E2.less (M1 := M0) (fun a z => .inl z) E1.aM
    refine fin H s ⟨fun a z => mI a (mB a z), fun j c h => ?_, fun j es h => ?_, by rw [backE_len, el]⟩ E3 ?_
    · by_cases hj : j ∈ own
      · exact ⟨c, backE_in hj (by rw [el]; exact (List.getElem?_eq_some_iff.mp h).1) h⟩
      · obtain ⟨c', h'⟩ := th j c hj h
        exact ⟨c', by rw [backE_out hj]; exact h'⟩
    · rcases backE_get h with ⟨b1, b2⟩ | ⟨b1, b2⟩
      · exact iom j es b1 b2
      · exact ⟨es, b2⟩
    · unfold Rep
      refine ⟨Dl, ys, rfl, .inl ⟨fun z => ?_, Rd.of hH⟩, ?_⟩
      · rcases z with z | ⟨j, es, z1, z2⟩
        · exact (E1.m0 Dl z).ne hD
        · obtain ⟨b, zs, b1, _, _, b4, _⟩ := E2.own j es z1
          rw [z2] at b1; cases b1
          exact b4 (.inr rfl)
      · rw [ex, List.append_nil]
        refine RepL.stp Stp.refl (fun a z => ?_) acc ys rI
        rcases z with z | z
        · exact .inl (.inl z)
        · exact .inr (mB a z)
end
end Mp
set_option maxHeartbeats 4000000
namespace Mp
open PySem L2
variable [TabsW] [GdW]
section
variable {X : Cx} {G : Ctx} {W : WX}
theorem ev_lc {tg : Tgt} {it : IT} {t : Option IR} {e : IR} {own : List Nat} {env : Env} : ev G (.lc tg it t e own) env = (noExc (evi G it env)).bind fun ds e1 => if ds.length ≤ BIG ∧ own.all (hideB e1) = true ∧ (tgOwn tg).all (fun i => own.contains i) = true then
        (noExc (lcLoop own tg (tsF G t) (fun x => (ev G e x).take) ds e1)).bind fun xs e2 => .ok (.val (.lst xs)) (backE e1 e2 own) else .bad := by
  cases t <;> (rw [ev.eq_def]; rfl)
theorem lc_imp {K : PySem.W.Frag} {tg : Tgt} {it : IT} {t : Option IR} {e : IR} {own : List Nat} {σ : L2.St} {H : Hp} {Q : VK} (q : tI G W K (.lc tg it t e own) σ H Q) : tLc (tIi G W K it) (gT K tg) (tIf' G wNo K t) (tI G wNo K e) own σ H Q := by
  obtain ⟨H0, M0, A, env, E, q⟩ := q
  rw [ev_lc] at q
  refine ⟨H0, M0, A, env, E, (Sat.noExc (W' := W) (Sat.bind q)).mono fun ds e1 H1 _ s1 u1 E1 h1 J gJ D hD => ?_⟩
  by_cases hcn : ds.length ≤ BIG ∧ own.all (hideB e1) = true ∧ (tgOwn tg).all (fun i => own.contains i) = true
  · rw [if_pos hcn] at h1
    cases hr : lcLoop own tg (tsF G t) (fun x => (ev G e x).take) ds e1 with
    | bad => rw [hr] at h1; exact h1.elim
    | exc C f d e2 => rw [hr] at h1; exact h1.elim
    | ok xs e2 =>
      rw [hr] at h1
      exact lc_reads E1 (fun j hj => by simpa using (List.all_eq_true.mp hcn.2.2) j hj) hcn.2.1 gJ hD hcn.1 hr fun H' st sb E' r => h1 H' st sb E' _ r
  · rw [if_neg hcn] at h1; exact h1.elim
theorem e_lc {elt tgE iter : Expr} {ifs : List Expr} {scope : Scope} {own : List (Str × Nat)} {pos : Pos} {tg : Tgt} {it : IT} {t : Option IR} {e : IR} (hc : X.calm = true) (hN : X.N.Nodup) (hi : PI X tgE iter (tIi G W X.K it)) (ok : BlkOk X.N X.env.scope scope own)
    (hg : ∀ (s : Shared) (H : Hp) (C : Addr) (cl : List (Str × Addr)) (fp : List Addr), PG (X.blk s H scope (compEnvC scope cl C X.env) fp) tgE (gT X.K tg)) (ht : ∀ (s : Shared) (H : Hp) (C : Addr) (cl : List (Str × Addr)) (fp : List Addr), PTs (X.blk s H scope (compEnvC scope cl C X.env) fp) ifs (tIf' G wNo X.K t))
    (he : ∀ (s : Shared) (H : Hp) (C : Addr) (cl : List (Str × Addr)) (fp : List Addr), PE (X.blk s H scope (compEnvC scope cl C X.env) fp) elt (tI G wNo X.K e)) (hs : ∀ x, foldedSetIterable iter X.env x = pure x) :
    PE X (.ListComp elt [⟨tgE, iter, ifs, 0⟩] scope pos) (tI G W X.K (.lc tg it t e (own.map (·.2)))) := PE.by_ (pe_lc hc hN hi ok hg ht he hs) fun σ H Q q => lc_imp q
/-- an own class whose values' class is known -/
structure IsC (K : PySem.W.Frag) (C : Str) : Prop where
  cl : Cls K (clsAt K C)
  ha : PySem.W.findIn K (.ref (clsAt K C)) "__class__" = some (some (.builtin "object.__class__"))
  hn : PySem.W.specialIn K (.builtin "object.__class__") "__get__" = some (some (.builtin "getset_descriptor.__get__"))
  ht : PySem.W.takesIn K (.builtin "object.__class__") = some true
  hm : PySem.W.mroIn K (clsAt K C) (.type "object") = some true
structure IsK (K : PySem.W.Frag) (cs : List Str) (T : Ty) (u : Value) : Prop where
  n : PySem.W.kitOne K (.type "NoneType") u = some (tyD T .non)
  b : PySem.W.kitOne K (.type "bool") u = some (tyD T (.bl true))
  i : PySem.W.kitOne K (.type "int") u = some (tyD T (.int 0))
  s : PySem.W.kitOne K (.type "str") u = some (tyD T (.str Str.empty))
  l : PySem.W.kitOne K (.type "list") u = some (tyD T (.lst []))
  t : PySem.W.kitOne K (.type "tuple") u = some (tyD T (.tup []))
  c : ∀ C, C ∈ cs → PySem.W.kitOne K (.ref (clsAt K C)) u = some (tyD T (.obj C [] []))
theorem is_read {K : PySem.W.Frag} {cs : List Str} (hc : ∀ C, C ∈ cs → IsC K C) {H : Hp} {M : AS} {d : D} {v : V} (r : RepT K H M d v) (k : knownB cs d = true) : ∃ t, TyX K H v t ∧ ∀ T u, IsK K cs T u → PySem.W.kitOne K t u = some (tyD T d) := by
  cases d with
  | non => rw [r.non]; exact ⟨_, .base .non, fun T u h => h.n⟩
  | bl b => rw [r.bl]; exact ⟨_, .base (.bl b), fun T u h => by rw [h.b]; cases T <;> rfl⟩
  | int i => rw [r.int]; exact ⟨_, .base (.int i), fun T u h => by rw [h.i]; cases T <;> rfl⟩
  | str i => rw [r.str]; exact ⟨_, .base (.str i), fun T u h => by rw [h.s]; cases T <;> rfl⟩
  | lst ds =>
    obtain ⟨a, xs, rfl, h, _⟩ := r
    refine ⟨.type "list", ?_, fun T u h => by rw [h.l]; cases T <;> rfl⟩
    rcases h with (h | ⟨o, h⟩) | ⟨o, its, n, h, hc, _⟩
    · exact .base (.lst h)
    · exact .base (.frz h)
    · exact .kList h hc
  | tup ds =>
    obtain ⟨a, xs, rfl, h, _⟩ := r
    refine ⟨.type "tuple", ?_, fun T u h => by rw [h.t]; cases T <;> rfl⟩
    rcases h with h | ⟨o, h⟩
    · exact .base (.tup h)
    · exact .fTuple h
  | obj C ns ds =>
    have r' : Rep K H M (.obj C ns ds) v := r
    unfold Rep at r'
    obtain ⟨a, dx, xs, rfl, _, h, _⟩ := r'
    have hC : C ∈ cs := by
      unfold knownB at k
      simpa using k
    have I := hc C hC
    exact ⟨_, .base (.ins h I.cl I.ha I.hn I.ht I.hm), fun T u h => by rw [h.c C hC]; cases T <;> rfl⟩
  | raw w => cases k
theorem isin_sat {K : PySem.W.Frag} {a : IR} {ts : List Ty} (hc : ∀ C, C ∈ G.cls → IsC K C) {σ : L2.St} {H : Hp} {Q : VK} (q : tI G W K (.isin a ts) σ H Q) :
    tI G W K a σ H fun x H1 => ∃ t, TyX K H1 x t ∧ ∃ d, (∀ T u, IsK K G.cls T u → PySem.W.kitOne K t u = some (tyD T d)) ∧ (∀ H2, Stp NoA H1 H2 → Q (.bl (ts.any fun T => tyD T d)) H2) := by
  obtain ⟨H0, M0, A, env, E, q⟩ := q
  rw [ev] at q
  refine ⟨H0, M0, A, env, E, (Sat.bind q).mono fun o e1 H1 _ s1 u1 E1 h1 x hx => ?_⟩
  cases e : rdO e1 o with
  | none => rw [e] at h1; exact h1.elim
  | some d =>
    rw [e] at h1
    dsimp only at h1
    by_cases hk : knownB G.cls d = true
    · rw [if_pos hk] at h1
      obtain ⟨t, h, h'⟩ := is_read hc (hx.rdT E1 e) hk
      exact ⟨t, h, d, h', fun H2 s => h1 H2 s.no Sub.refl (E1.keep s) _ (show Rep K H2 (MM M0 e1 σ) (.bl _) (.bl _) from rep_bl _)⟩
    · rw [if_neg hk] at h1; exact h1.elim
theorem e_isin1 {a c : Expr} {a' : IR} {T : Ty} {cv : V} {u : Value} {p pos : Pos} (hc : ∀ C, C ∈ G.cls → IsC X.K C) (hK : IsK X.K G.cls T u) (hv : ClsV cv u) (ha : PE X a (tI G W X.K a')) (hcl : PE X c (tC cv)) (hg : Gl X "isinstance") (hm : X.mg "isinstance" = none) (s1 : starB a = false) (s2 : starB c = false) :
    PE X (.Call (.Name "isinstance" p) [a, c] [] pos) (tI G W X.K (.isin a' [T])) :=
  PE.by_ (pe_callB call_isi hg hm (by decide +kernel) (pa_cons ha (pa_cons hcl pa_nil (star_cons s2)) (star_cons s1)) (by decide) (by decide) (star_cons s1) (star_none (by rw [List.any_cons, s2]; rfl))) fun σ H Q q => by
    obtain ⟨H0, M0, A, env, E, q⟩ := isin_sat hc q
    refine ⟨H0, M0, A, env, E, q.mono fun o e1 H1 _ s1 u1 E1 h1 x hx => ?_⟩
    obtain ⟨t, h2, d, h3, h4⟩ := h1 x hx
    refine ⟨x, cv, t, u, tyD T d, rfl, hv, h2, h3 T u hK, ?_⟩
    have := h4 H1 Stp.refl
    simpa using this
/-- append -/
theorem own_at {env : Env} {i : Nat} (h : ownB env i = true) : ∃ ds, env[i]? = some (some (.own ds)) := by
  unfold ownB at h
  cases e : env[i]? with
  | none => rw [e] at h; cases h
  | some o =>
    rw [e] at h
    cases o with
    | none => cases h
    | some c =>
      cases c with
      | own ds => exact ⟨ds, rfl⟩
      | _ => cases h
theorem e_app {x : Str} {np apos pos : Pos} {e : Expr} {i : Nat} {e' : IR} (hN : X.N[i]? = some x) (hv : Vis X.env.scope x) (hd : (x == ("__debug__" : Str)) = false) (hcd : (x == ("__classdict__" : Str)) = false) (ha : PE X e (tI G W X.K e')) (h1 : starB e = false)
    (hfew : ((backTo pos (starEach [e] X.env)).all (fun x => !x.1) && (backToKw pos (keywordEach [] X.env)).all (fun x => x.1.isSome)
      && decide (([e] : List Expr).length + ([] : List Keyword).length + (if ([] : List Keyword).isEmpty then 0 else 1) < 30)) = true)
    (hline : (apos.endLine == pos.line) = true) :
    PE X (.Call (.Attribute (.Name x np) "append" apos) [e] [] pos) (tI G W X.K (.app i e')) :=
  PE.by_ (pe_bm PySem.F.plainAttrs_list PySem.F.slot_list_append PySem.F.type_list_append mt_append (pe_var hN hv hd hcd) (pa_cons ha pa_nil (star_cons h1)) rfl hfew hline (star_cons h1) (star_none rfl)) fun σ H Q q => by
    obtain ⟨H0, M0, A, env, E, q⟩ := q
    rw [ev] at q
    by_cases ho : ownB env i = true
    · rw [if_pos ho] at q
      obtain ⟨ds, hi⟩ := own_at ho
      obtain ⟨a, xs, e1, e2, _⟩ := E.own i ds hi
      refine ⟨_, e1, .inl ⟨rfl, _, SqL.of e2⟩, H0, M0, A, env, E, ?_⟩
      unfold R.take at q
      rw [R.bind_assoc] at q
      refine (Sat.bind q).mono fun o e1' H1 _ s1 u1 E1 h1 v hx => ?_
      cases e : takeO e1' o with
      | none => rw [e] at h1; exact h1.elim
      | some p =>
        obtain ⟨d, e2'⟩ := p
        rw [e] at h1
        obtain ⟨E2, rd, u2⟩ := E1.take hx e
        have h1 : Sat X.K H0 M0 A W (match e2'[i]? with
            | some (some (.own ds)) => if ds.length < BIG then R.ok (.val .non) (e2'.set i (some (.own (ds ++ [d])))) else .bad
            | _ => .bad) e1' σ H1 fun o e1 H1 => ∀ v, OpdR X.K M0 e1 σ H1 o v → Q v H1 := h1
        cases h2 : e2'[i]? with
        | none => rw [h2] at h1; exact h1.elim
        | some c =>
          rw [h2] at h1
          cases c with
          | none => exact h1.elim
          | some c =>
            cases c with
            | own ds' =>
              dsimp only at h1
              by_cases hl : ds'.length < BIG
              · rw [if_pos hl] at h1
                obtain ⟨a', xs', f1, f2, f3, f4⟩ := E2.own i ds' h2
                rw [e1] at f1; cases f1
                have hs : sizeLine = 16777216 := sizeLine_eq
                refine ⟨a, xs', v, rfl, rfl, f2, by rw [← f3.length]; unfold BIG at hl; omega, ?_⟩
                have st : Stp (fun x => x = a) H1 (upd H1 a (.lst (xs' ++ [v]))) := Stp.set rfl (pl_at f2)
                have stM : Stp (MM M0 e2' σ) H1 (upd H1 a (.lst (xs' ++ [v]))) := st.weak fun x z => z ▸ .inr ⟨i, ds', h2, e1⟩
                obtain ⟨E3, u3, _⟩ := E2.setOwn h2 e1 st upd_same (out := ds' ++ [d]) ((RepL.stp stM (fun _ z => z) ds' xs' f3).append (RepL.cons (Rep.stp stM (fun _ z => z) d v rd) RepL.nil))
                refine h1 _ (st.weak fun x z => z ▸ .inr (u2.own a ⟨i, ds', h2, e1⟩)) (u2.trans u3) E3 .non ?_
                unfold OpdR
                dsimp only
                unfold Rep
                rfl
              · rw [if_neg hl] at h1; exact h1.elim
            | _ => exact h1.elim
    · rw [if_neg ho] at q; exact q.elim
end
end Mp
set_option maxHeartbeats 4000000
namespace Mp
open PySem L2
variable [TabsW] [GdW]
inductive SR where
  | nx (env : Env) | rt (d : D) (env : Env) | rl (ds : List D) (env : Env) | bk (env : Env) | ct (env : Env) | exc (C : Str) (f : Str) (d : D) (env : Env) | bad
def R.toS {α : Type} : R α → (α → Env → SR) → SR
  | .ok a e, k => k a e
  | .exc C f d e, _ => .exc C f d e
  | .bad, _ => .bad
def SR.seq : SR → (Env → SR) → SR
  | .nx e, k => k e
  | r, _ => r
/-- a list just made -/
inductive LM where
  | lst (es : List IR) | copy (e : IR) | call (j : Nat) (es : List IR)
inductive ST where
  | expr (e : IR) | asg (tg : Tgt) (e : IR) | new (i : Nat) (m : LM) | six (i : Nat) (ie e : IR)
  | if_ (t : IR) (a b : List ST) | for_ (tg : Tgt) (it : IT) (b : List ST) | whl (t : IR) (b : List ST)
  | ret (e : IR) | retn | retl (m : LM) | pass | brk | cont | par (is : List Nat) (es : List IR) | parn (i : Nat) (e : IR) (j : Nat) (m : LM) | nev | raise (C f : Str) (e : IR)
/-- the turns of a for -/
def forL (tg : Tgt) (body : Env → SR) : List D → Env → SR
  | [], env => .nx env
  | d :: ds, env => match bindT tg d env with
    | none => .bad
    | some e1 => match body e1 with
      | .nx e2 => forL tg body ds e2
      | .ct e2 => forL tg body ds e2
      | .bk e2 => .nx e2
      | .rt d e2 => .rt d e2
      | .rl d e2 => .rl d e2
      | .exc C f d e2 => .exc C f d e2
      | .bad => .bad
/-- the turns of a while, at most so many -/
def whlL (t : Env → R Bool) (body : Env → SR) : Nat → Env → SR
  | 0, _ => .bad
  | n + 1, env => (t env).toS fun b e1 => if b then (match body e1 with
      | .nx e2 => whlL t body n e2
      | .ct e2 => whlL t body n e2
      | .bk e2 => .nx e2
      | .rt d e2 => .rt d e2
      | .rl d e2 => .rl d e2
      | .exc C f d e2 => .exc C f d e2
      | .bad => .bad) else .nx e1
def evL (G : Ctx) : LM → Env → R (List D)
  | .lst es, env => evs G es env
  | .copy e, env => (ev G e env).rd.bind fun d e1 => match d with
    | .lst ds => .ok ds e1
    | .tup ds => .ok ds e1
    | _ => .bad
  | .call j es, env => match G.frs[j]? with
    | none => .bad
    | some f => if es.length = f.n then (evs G es env).bind fun vs e1 => (match f.sem vs with
      | .ok (.lst ds) _ => .ok ds e1
      | .exc C g d _ => .exc C g d e1
      | _ => .bad) else .bad
/-- a list that may be changed here -/
def placeB (env : Env) (i : Nat) : Bool := match env[i]? with
  | some (some (.own _)) => true
  | some (some (.io _)) => true
  | _ => false
mutual
def evS (G : Ctx) : ST → Env → SR
  | .expr e, env => (ev G e env).toS fun _ e1 => .nx e1
  | .asg tg e, env => (ev G e env).take.toS fun d e1 => match bindT tg d e1 with
    | some e2 => .nx e2
    | none => .bad
  | .new i m, env => (evL G m env).toS fun ds e1 => if ds.length ≤ BIG ∧ freeB e1 i = true then .nx (e1.set i (some (.own ds))) else .bad
  | .six i ie e, env => (ev G e env).take.toS fun d e1 => if placeB e1 i then (ev G ie e1).rd.toS fun k e2 => (match k, e2[i]? with
      | .int k, some (some (.own ds)) => if 0 ≤ k ∧ k < ds.length then .nx (e2.set i (some (.own (ds.set k.toNat d)))) else .bad
      | .int k, some (some (.io ds)) => if 0 ≤ k ∧ k < ds.length then .nx (e2.set i (some (.io (ds.set k.toNat d)))) else .bad
      | _, _ => .bad) else .bad
  | .retl m, env => (evL G m env).toS fun ds e1 => if ds.length ≤ BIG then .rl ds e1 else .bad
  | .par is es, env => (evs G es env).toS fun ds e1 => match bindT (.tup is) (.tup ds) e1 with
    | some e2 => .nx e2
    | none => .bad
  | .parn i e j m, env => (ev G e env).take.toS fun d e1 => (evL G m e1).toS fun ds e2 => if ds.length ≤ BIG ∧ freeB e2 i = true ∧ freeB e2 j = true ∧ i ≠ j then .nx ((e2.set i (some (.dat d))).set j (some (.own ds))) else .bad
  | .nev, _ => .bad
  | .raise C f e, env => (evs G [e] env).toS fun ds e1 => match ds with
    | [d] => .exc C f d e1
    | _ => .bad
  | .if_ t a b, env => (truR (ev G t env)).toS fun c e1 => if c then evSs G a e1 else evSs G b e1
  | .for_ tg it b, env => (evi G it env).toS fun ds e1 => forL tg (fun e => evSs G b e) ds e1
  | .whl t b, env => whlL (fun e => truR (ev G t e)) (fun e => evSs G b e) BIG env
  | .ret e, env => (ev G e env).take.toS fun d e1 => .rt d e1
  | .retn, env => .rt .non env
  | .pass, env => .nx env
  | .brk, env => .bk env
  | .cont, env => .ct env
def evSs (G : Ctx) : List ST → Env → SR
  | [], env => .nx env
  | s :: ss, env => (evS G s env).seq fun e => evSs G ss e
end
/-- what is owned later was owned or is new -/
structure SubS (σ : L2.St) (env : Env) (H : Hp) (σ' : L2.St) (env' : Env) : Prop where
  own : ∀ a, MutAt env' σ' a → MutAt env σ a ∨ ¬ Lv H a
  len : σ'.length = σ.length
theorem SubS.refl {σ : L2.St} {env : Env} {H : Hp} : SubS σ env H σ env := ⟨fun _ z => .inl z, rfl⟩
theorem Sub.toS {σ : L2.St} {env e1 : Env} {H : Hp} (u : Sub σ env e1) : SubS σ env H σ e1 := ⟨fun a z => .inl (u.own a z), rfl⟩
section
variable {K : PySem.W.Frag} {H0 H H1 H2 : Hp} {M0 A : AS} {env e1 e2 : Env} {σ σ1 σ2 : L2.St} {W : WX}
theorem Stp.sTrans (s : Stp (WW A env σ) H H1) (u : SubS σ env H σ1 e1) (s2 : Stp (WW A e1 σ1) H1 H2) : Stp (WW A env σ) H H2 := by
  refine ⟨fun a o e n t => s2.st a o (s.st a o e n t) (fun z => ?_) t, fun a h => s2.mo a (s.mo a h), fun P q m h => s2.tb P q m (s.tb P q m h)⟩
  rcases z with z | z
  · exact n (.inl z)
  · rcases u.own a z with q | q
    · exact n (.inr q)
    · exact q ⟨o, e, t⟩
theorem SubS.trans (s : Stp (WW A env σ) H H1) (u : SubS σ env H σ1 e1) (u2 : SubS σ1 e1 H1 σ2 e2) : SubS σ env H σ2 e2 := by
  refine ⟨fun a z => ?_, u2.len.trans u.len⟩
  rcases u2.own a z with q | q
  · exact u.own a q
  · exact .inr fun w => q (s.mo a w)
/-- what follows a statement -/
def SatS (K : PySem.W.Frag) (H0 : Hp) (M0 A : AS) (W : WX) (r : SR) (env : Env) (σ : L2.St) (H : Hp) (D : Ends) : Prop := match r with
  | .nx e' => ∀ σ' H', Stp (WW A env σ) H H' → SubS σ env H σ' e' → EnvR K H0 M0 A e' σ' H' → D.nx σ' H'
  | .bk e' => ∀ σ' H', Stp (WW A env σ) H H' → SubS σ env H σ' e' → EnvR K H0 M0 A e' σ' H' → D.bk σ' H'
  | .ct e' => ∀ σ' H', Stp (WW A env σ) H H' → SubS σ env H σ' e' → EnvR K H0 M0 A e' σ' H' → D.ct σ' H'
  | .rt d e' => ∀ σ' v H', Stp (WW A env σ) H H' → SubS σ env H σ' e' → EnvR K H0 M0 A e' σ' H' → Rep K H' (MM M0 e' σ') d v → D.rt v H'
  | .rl ds e' => ∀ σ' p vs H', Stp (WW A env σ) H H' → SubS σ env H σ' e' → EnvR K H0 M0 A e' σ' H' → ¬ Lv H0 p → ¬ M0 p → H' p = some (.lst vs) → RepL K H' (fun a => M0 a ∨ a = p) ds vs → D.rt (.ref p) H'
  | .exc C f d e' => ∀ σ' dd v H', Stp (WW A env σ) H H' → SubS σ env H σ' e' → EnvR K H0 M0 A e' σ' H' → H' dd = some (.xd [(f, v)]) → Rep K H' (MM M0 e' σ') d v → W (.ref (clsAt K C)) (some dd) σ' H'
  | .bad => False
theorem SatS.go {r : SR} {D : Ends} (h : SatS K H0 M0 A W r env σ H D) (s : Stp (WW A env σ) H H1) (u : SubS σ env H σ1 e1) : SatS K H0 M0 A W r e1 σ1 H1 D := by
  cases r with
  | bad => exact h
  | nx e' => exact fun σ' H' s' u' E' => h σ' H' (s.sTrans u s') (u.trans s u') E'
  | bk e' => exact fun σ' H' s' u' E' => h σ' H' (s.sTrans u s') (u.trans s u') E'
  | ct e' => exact fun σ' H' s' u' E' => h σ' H' (s.sTrans u s') (u.trans s u') E'
  | rt d e' => exact fun σ' v H' s' u' E' => h σ' v H' (s.sTrans u s') (u.trans s u') E'
  | rl d e' => exact fun σ' p vs H' s' u' E' => h σ' p vs H' (s.sTrans u s') (u.trans s u') E'
  | exc C f d e' => exact fun σ' dd v H' s' u' E' => h σ' dd v H' (s.sTrans u s') (u.trans s u') E'
theorem SatS.toS {α : Type} {r : R α} {f : α → Env → SR} {D : Ends} (h : SatS K H0 M0 A W (r.toS f) env σ H D) : Sat K H0 M0 A W r env σ H fun a e1 H1 => SatS K H0 M0 A W (f a e1) e1 σ H1 D := by
  cases r with
  | bad => exact h
  | exc C f d e' => exact fun dd v H' s u E' => h σ dd v H' s u.toS E'
  | ok a e' => exact fun H' s u E' => SatS.go (show SatS K H0 M0 A W (f a e') env σ H D from h) s u.toS
end
section
variable {X : Cx} {G : Ctx} {W : WX}
def tS (G : Ctx) (W : WX) (K : PySem.W.Frag) (s : ST) : TS := fun D σ H => ∃ H0 M0 A env, EnvR K H0 M0 A env σ H ∧ SatS K H0 M0 A W (evS G s env) env σ H D
def tSs (G : Ctx) (W : WX) (K : PySem.W.Frag) (s : List ST) : TS := fun D σ H => ∃ H0 M0 A env, EnvR K H0 M0 A env σ H ∧ SatS K H0 M0 A W (evSs G s env) env σ H D
theorem PS.by_ {s : Stmt} {t t' : TS} (h : PS X s t) (i : ∀ D σ H, t' D σ H → t D σ H) : PS X s t' := ⟨fun pins s σ H D I q => h.run pins s σ H D I (i D σ H q)⟩
theorem PSs.by_ {s : List Stmt} {t t' : TS} (h : PSs X s t) (i : ∀ D σ H, t' D σ H → t D σ H) : PSs X s t' := ⟨fun pins s σ H D I q => h.run pins s σ H D I (i D σ H q)⟩
theorem take_readS {K : PySem.W.Frag} {H0 H : Hp} {M0 A : AS} {env : Env} {σ : L2.St} {i : IR} {f : D → Env → SR} {D : Ends} (E : EnvR K H0 M0 A env σ H) (q : SatS K H0 M0 A W ((ev G i env).take.toS f) env σ H D)
    {Q : VK} (k : ∀ d v e1 H1, EnvR K H0 M0 A e1 σ H1 → Rep K H1 (MM M0 e1 σ) d v → Stp (WW A env σ) H H1 → Sub σ env e1 → SatS K H0 M0 A W (f d e1) e1 σ H1 D → Q v H1) : tI G W K i σ H Q := by
  have q := SatS.toS q
  unfold R.take at q
  refine ⟨H0, M0, A, env, E, (Sat.bind q).mono fun o e1 H1 _ s1 u1 E1 h1 x hx => ?_⟩
  cases e : takeO e1 o with
  | none => rw [e] at h1; exact h1.elim
  | some p =>
    obtain ⟨d, e2⟩ := p
    rw [e] at h1
    obtain ⟨E2, rd, u2⟩ := E1.take hx e
    exact k d x e2 H1 E2 rd s1 (u1.trans u2) (h1 H1 Stp.refl u2 E2)
theorem rd_readS {K : PySem.W.Frag} {H0 H : Hp} {M0 A : AS} {env : Env} {σ : L2.St} {i : IR} {f : D → Env → SR} {D : Ends} (E : EnvR K H0 M0 A env σ H) (q : SatS K H0 M0 A W ((ev G i env).rd.toS f) env σ H D)
    {Q : VK} (k : ∀ d v e1 H1, EnvR K H0 M0 A e1 σ H1 → RepT K H1 (MM M0 e1 σ) d v → Stp (WW A env σ) H H1 → Sub σ env e1 → SatS K H0 M0 A W (f d e1) e1 σ H1 D → Q v H1) : tI G W K i σ H Q := by
  have q := SatS.toS q
  unfold R.rd at q
  refine ⟨H0, M0, A, env, E, (Sat.bind q).mono fun o e1 H1 _ s1 u1 E1 h1 x hx => ?_⟩
  cases e : rdO e1 o with
  | none => rw [e] at h1; exact h1.elim
  | some d =>
    rw [e] at h1
    exact k d x e1 H1 E1 (hx.rdT E1 e) s1 u1 (h1 H1 Stp.refl Sub.refl E1)
theorem st_expr {e : Expr} {i : IR} {pos : Pos} (he : PE X e (tI G W X.K i)) (hs : swapsWith e none pos.line X.env = pure false) : PS X (.Expr e pos) (tS G W X.K (.expr i)) := PS.by_ (ps_expr he hs) fun D σ H q => by
  obtain ⟨H0, M0, A, env, E, q⟩ := q
  rw [evS] at q
  exact ⟨H0, M0, A, env, E, (SatS.toS q).mono fun o e1 H1 _ s1 u1 E1 h1 v hv => h1 σ H1 Stp.refl SubS.refl E1⟩
theorem st_asg {tgE e : Expr} {tg : Tgt} {i : IR} {pos : Pos} (h : PS X (.Assign [tgE] e pos) (tAsg (tI G W X.K i) (gT X.K tg))) : PS X (.Assign [tgE] e pos) (tS G W X.K (.asg tg i)) := PS.by_ h fun D σ H q => by
  obtain ⟨H0, M0, A, env, E, q⟩ := q
  rw [evS] at q
  refine take_readS E q fun d v e1 H1 E1 rd s1 u1 h1 => ?_
  cases hb : bindT tg d e1 with
  | none => rw [hb] at h1; exact h1.elim
  | some e2 =>
    rw [hb] at h1
    exact tgt_read E1 hb rd fun σ' E' u' l' o' => h1 σ' H1 Stp.refl ⟨fun a z => .inl (u' a z), l'⟩ E'
theorem st_ret {e : Expr} {i : IR} {pos : Pos} (he : PE X e (tI G W X.K i)) : PS X (.Return (some e) pos) (tS G W X.K (.ret i)) := PS.by_ (ps_ret he) fun D σ H q => by
  obtain ⟨H0, M0, A, env, E, q⟩ := q
  rw [evS] at q
  exact take_readS E q fun d v e1 H1 E1 rd s1 u1 h1 => h1 σ v H1 Stp.refl SubS.refl E1 rd
/-- raise X(e): the error's own dict d is new and holds the field f -/
def tRaiseE (C : Addr) (f : Str) (W : WX) (ta : TA) : TS := fun _ σ H => ta σ H fun vs H1 => ∃ v, vs = [v] ∧ ∀ d, H1 d = none → W (.ref C) (some d) σ (upd H1 d (.xd [(f, v)]))
theorem st_raise {s : Stmt} {C f : Str} {i : IR} (h : PS X s (tRaiseE (clsAt X.K C) f W (tIs G W X.K [i]))) : PS X s (tS G W X.K (.raise C f i)) := PS.by_ h fun D σ H q => by
  obtain ⟨H0, M0, A, env, E, q⟩ := q
  rw [evS] at q
  refine ⟨H0, M0, A, env, E, (SatS.toS q).mono fun ds e1 H1 _ s1 u1 E1 h1 vs hv => ?_⟩
  cases ds with
  | nil => exact h1.elim
  | cons d ds =>
    cases ds with
    | cons _ _ => exact h1.elim
    | nil =>
      unfold RepL at hv
      obtain ⟨v, ys, rfl, rv, hn⟩ := hv
      unfold RepL at hn
      subst hn
      exact ⟨v, rfl, fun p hp => h1 σ p v _ (Stp.new hp) SubS.refl (E1.new hp) upd_same (Rep.stp (Stp.new hp) (fun _ z => z) d v rv)⟩
theorem ss_nil : PSs X [] (tSs G W X.K []) := PSs.by_ pss_nil fun D σ H q => by
  obtain ⟨H0, M0, A, env, E, q⟩ := q
  rw [evSs] at q
  exact q σ H Stp.refl SubS.refl E
theorem seq_read {K : PySem.W.Frag} {H0 H : Hp} {M0 A : AS} {env : Env} {σ : L2.St} {r : SR} {ss : List ST} {D : Ends} (q : SatS K H0 M0 A W (r.seq fun e => evSs G ss e) env σ H D) : SatS K H0 M0 A W r env σ H { D with nx := tSs G W K ss D } := by
  cases r with
  | nx e' => exact fun σ' H' s u E' => ⟨H0, M0, A, e', E', SatS.go (show SatS K H0 M0 A W (evSs G ss e') env σ H D from q) s u⟩
  | _ => exact q
theorem ss_cons {s : Stmt} {ss : List Stmt} {t : ST} {ts : List ST} (h1 : PS X s (tS G W X.K t)) (h2 : PSs X ss (tSs G W X.K ts)) : PSs X (s :: ss) (tSs G W X.K (t :: ts)) := PSs.by_ (pss_cons h1 h2) fun D σ H q => by
  obtain ⟨H0, M0, A, env, E, q⟩ := q
  rw [evSs] at q
  exact ⟨H0, M0, A, env, E, seq_read q⟩
theorem st_if {c : Expr} {a b : List Stmt} {t : IR} {as bs : List ST} {pos : Pos} (hc : PT X c (tIt G W X.K t)) (ha : PSs X a (tSs G W X.K as)) (hb : PSs X b (tSs G W X.K bs)) : PS X (.If c a b pos) (tS G W X.K (.if_ t as bs)) := PS.by_ (ps_if hc ha hb) fun D σ H q => by
  obtain ⟨H0, M0, A, env, E, q⟩ := q
  rw [evS] at q
  refine ⟨H0, M0, A, env, E, (SatS.toS q).mono fun b e1 H1 _ s1 u1 E1 h1 => ?_⟩
  cases b with
  | true => exact ⟨H0, M0, A, e1, E1, h1⟩
  | false => exact ⟨H0, M0, A, e1, E1, h1⟩
end
end Mp
set_option maxHeartbeats 4000000
namespace Mp
open PySem L2
variable [TabsW] [GdW]
section
variable {X : Cx} {G : Ctx} {W : WX}
theorem for_reads {K : PySem.W.Frag} {H0 H1 : Hp} {M0 A : AS} {e1 : Env} {σ : L2.St} {tg : Tgt} {b : List ST} {ds : List D} {J : L2.It} {D : Ends} (E1 : EnvR K H0 M0 A e1 σ H1) (gJ : Goes K (MM M0 e1 σ) (WW A e1 σ) H1 J ds)
    (q : SatS K H0 M0 A W (forL tg (fun e => evSs G b e) ds e1) e1 σ H1 D) :
    ∃ Wd : Nat → Nat → L2.St → Hp → Prop, (∃ m, Wd 0 m σ H1) ∧ ∀ i m σ H, Wd i m σ H →
      (J.stop i H ∧ D.nx σ H) ∨ (J.go i H ∧ ∃ N : L2.St → Hp → Prop, (∀ σ' H', N σ' H' → ∃ m', m' < m ∧ Wd (i + 1) m' σ' H') ∧ ∀ x H', J.yld i H x H' → gT K tg x σ H' fun σ2 H2 => tSs G W K b { D with nx := N, ct := N, bk := D.nx } σ2 H2) := by
  obtain ⟨Gd, Y, wk, hGd, hY⟩ := gJ
  refine L2.for_it wk (fun i σi Hi => ∃ envi, EnvR K H0 M0 A envi σi Hi ∧ Stp (WW A e1 σ) H1 Hi ∧ SubS σ e1 H1 σi envi ∧ SatS K H0 M0 A W (forL tg (fun e => evSs G b e) (ds.drop i) envi) envi σi Hi D) ⟨e1, E1, Stp.refl, SubS.refl, q⟩
    (fun i σ H _ ⟨_, _, s, _⟩ => hGd H s) (fun i x σi H H' hi ⟨envi, Ei, si, ui, qi⟩ y => ?_) fun σi H ⟨envi, Ei, si, ui, qi⟩ => ?_
  · have hM : ∀ a, MM M0 envi σi a → (MM M0 e1 σ a ∨ ¬ Lv H1 a) ∧ Lv H a := fun a z => by
      rcases z with z | z
      · exact ⟨.inl (.inl z), Ei.m0 a z⟩
      · refine ⟨(ui.own a z).elim (fun q => .inl (.inr q)) .inr, ?_⟩
        obtain ⟨j, es, z1, z2⟩ := z
        obtain ⟨b, zs, b1, b2, _⟩ := Ei.own j es z1
        rw [z2] at b1; cases b1
        exact Lv.lst b2
    obtain ⟨st, d, hd, rd⟩ := hY i H x H' _ hi si hM y
    have hdrop : ds.drop i = d :: ds.drop (i + 1) := by
      rw [List.drop_eq_getElem_cons hi]
      congr 1
      have := List.getElem?_eq_getElem hi
      rw [hd] at this; exact (Option.some.inj this).symm
    rw [hdrop, forL] at qi
    cases hb : bindT tg d envi with
    | none => rw [hb] at qi; exact qi.elim
    | some env2 =>
      rw [hb] at qi
      dsimp only at qi
      refine tgt_read (Ei.keep st) hb rd fun σ' E' u' l' o' => ⟨H0, M0, A, env2, E', ?_⟩
      have w : ∀ a, WW A env2 σ' a → WW A envi σi a := fun a z => z.elim .inl fun q => .inr (u' a q)
      have nxt : ∀ {e2 : Env} {σ2 : L2.St} {H2 : Hp}, Stp (WW A env2 σ') H' H2 → SubS σ' env2 H' σ2 e2 → Stp (WW A envi σi) H H2 ∧ SubS σi envi H σ2 e2 := fun {e2 σ2 H2} s2 u2 => by
        refine ⟨st.no.trans (s2.weak w), fun a z => ?_, u2.len.trans l'⟩
        rcases u2.own a z with q | q
        · exact .inl (u' a q)
        · exact .inr fun w => q (st.mo a w)
      cases hr : evSs G b env2 with
      | bad => rw [hr] at qi; exact qi.elim
      | nx e2 =>
        rw [hr] at qi
        intro σ2 H2 s2 u2 E2
        obtain ⟨s3, u3⟩ := nxt s2 u2
        exact ⟨e2, E2, si.sTrans ui s3, ui.trans si u3, SatS.go qi s3 u3⟩
      | ct e2 =>
        rw [hr] at qi
        intro σ2 H2 s2 u2 E2
        obtain ⟨s3, u3⟩ := nxt s2 u2
        exact ⟨e2, E2, si.sTrans ui s3, ui.trans si u3, SatS.go qi s3 u3⟩
      | bk e2 =>
        rw [hr] at qi
        intro σ2 H2 s2 u2 E2
        obtain ⟨s3, u3⟩ := nxt s2 u2
        exact qi σ2 H2 s3 u3 E2
      | rt d e2 =>
        rw [hr] at qi
        intro σ2 v H2 s2 u2 E2
        obtain ⟨s3, u3⟩ := nxt s2 u2
        exact qi σ2 v H2 s3 u3 E2
      | rl d e2 =>
        rw [hr] at qi
        intro σ2 p vs H2 s2 u2 E2
        obtain ⟨s3, u3⟩ := nxt s2 u2
        exact qi σ2 p vs H2 s3 u3 E2
      | exc C f d e2 =>
        rw [hr] at qi
        intro σ2 dd v H2 s2 u2 E2
        obtain ⟨s3, u3⟩ := nxt s2 u2
        exact qi σ2 dd v H2 s3 u3 E2
  · rw [List.drop_length, forL] at qi
    exact qi σi H Stp.refl SubS.refl Ei
theorem st_for {tgE iter : Expr} {body : List Stmt} {tg : Tgt} {it : IT} {b : List ST} {pos : Pos} (h : PS X (.For tgE iter body [] pos) (tFor (tIi G W X.K it) (gT X.K tg) (tSs G W X.K b))) : PS X (.For tgE iter body [] pos) (tS G W X.K (.for_ tg it b)) := PS.by_ h fun D σ H q => by
  obtain ⟨H0, M0, A, env, E, q⟩ := q
  rw [evS] at q
  exact ⟨H0, M0, A, env, E, (SatS.toS q).mono fun ds e1 H1 _ s1 u1 E1 h1 J gJ => for_reads E1 gJ h1⟩
/-- a new list of one's own in a slot -/
theorem EnvR.setNew {K : PySem.W.Frag} {H0 H : Hp} {M0 A : AS} {env : Env} {σ : L2.St} (E : EnvR K H0 M0 A env σ H) {i : Nat} {ds : List D} {vs : List V} {p : Addr} {H' : Hp} (hf : freeB env i = true) (hp : ¬ Lv H p) (s : Stp NoA H H') (h' : H' p = some (.lst vs)) (r : RepL K H' (fun a => MM M0 env σ a ∨ a = p) ds vs) :
    EnvR K H0 M0 A (env.set i (some (.own ds))) (σ.set i (some (.ref p))) H' ∧ SubS σ env H (σ.set i (some (.ref p))) (env.set i (some (.own ds))) := by
  have hi := free_lt hf
  have hi' : i < σ.length := by rw [← E.len]; exact hi
  obtain ⟨n1, n2⟩ := E.freshL hp
  have other : ∀ {j c}, (env.set i (some (Cell.own ds)))[j]? = some (some c) → (i = j ∧ c = .own ds) ∨ (i ≠ j ∧ env[j]? = some (some c) ∧ (σ.set i (some (V.ref p)))[j]? = σ[j]?) := fun {j c} e1 => by
    by_cases hj : i = j
    · subst hj; rw [List.getElem?_set_self hi] at e1; cases e1; exact .inl ⟨rfl, rfl⟩
    · rw [List.getElem?_set_ne hj] at e1; exact .inr ⟨hj, e1, List.getElem?_set_ne hj⟩
  have mutI : ∀ b, MutAt (env.set i (some (Cell.own ds))) (σ.set i (some (V.ref p))) b → MutAt env σ b ∨ b = p := fun b ⟨j, es, e1, e2⟩ => by
    rcases other e1 with ⟨rfl, _⟩ | ⟨hj, e1, e3⟩
    · rw [List.getElem?_set_self hi'] at e2; cases e2; exact .inr rfl
    · rw [e3] at e2; exact .inl ⟨j, es, e1, e2⟩
  have subM : ∀ b, MM M0 (env.set i (some (Cell.own ds))) (σ.set i (some (V.ref p))) b → MM M0 env σ b ∨ b = p := fun b z => z.elim (fun q => .inl (.inl q)) fun q => (mutI b q).elim (fun q => .inl (.inr q)) .inr
  have gr : ∀ b, (MM M0 env σ b ∨ b = p) → MM M0 env σ b ∨ ¬ Lv H b := fun b z => z.elim .inl fun q => .inr (by rw [q]; exact hp)
  have rep : ∀ {d v}, Rep K H (MM M0 env σ) d v → Rep K H' (MM M0 (env.set i (some (Cell.own ds))) (σ.set i (some (V.ref p)))) d v := fun {d v} r => Rep.stp s.no subM d v (Rep.grow gr d v r)
  have repL : ∀ {es xs}, RepL K H (MM M0 env σ) es xs → RepL K H' (MM M0 (env.set i (some (Cell.own ds))) (σ.set i (some (V.ref p)))) es xs := fun {es xs} r => RepL.stp s.no subM es xs (RepL.grow gr es xs r)
  refine ⟨⟨by rw [List.length_set, List.length_set]; exact E.len, fun b o e n t => ?_, fun b h => s.mo b (E.alive b h), fun P q h => s.tb P q h (E.tb P q h), fun b hb => s.mo b (E.m0 b hb), E.aM, E.a1, fun j d' e1 => ?_, fun j es e1 => ?_, fun j es e1 => ?_, fun j k b es fs e1 e2 e3 e4 => ?_, fun j k es fs e1 e2 => ?_, fun j C ns es e1 => ?_⟩, fun b z => ?_, List.length_set⟩
  · exact s.st b o (E.old b o e n t) id t
  · rcases other e1 with ⟨rfl, e⟩ | ⟨hj, e1, e3⟩
    · cases e
    · obtain ⟨v, a1, a2⟩ := E.dat j d' e1
      exact ⟨v, e3.trans a1, rep a2⟩
  · rcases other e1 with ⟨rfl, e⟩ | ⟨hj, e1, e3⟩
    · cases e
      exact ⟨p, vs, List.getElem?_set_self hi', h', RepL.stp Stp.refl subM ds vs r, fun z => n1 (.inl z), n2⟩
    · obtain ⟨b, zs, a1, a2, a3, a4⟩ := E.own j es e1
      exact ⟨b, zs, e3.trans a1, s.st b _ a2 id nt_lst, repL a3, a4⟩
  · rcases other e1 with ⟨rfl, e⟩ | ⟨hj, e1, e3⟩
    · cases e
    · obtain ⟨b, zs, a1, a2, a3, a4⟩ := E.io j es e1
      exact ⟨b, zs, e3.trans a1, a2, s.st b _ a3 id nt_lst, repL a4⟩
  · have pn : ∀ {j es}, env[j]? = some (some (Cell.own es)) → σ[j]? = some (some (V.ref p)) → False := fun {j es} h1 h2 => by
      obtain ⟨b, zs, a1, a2, _⟩ := E.own j es h1
      rw [h2] at a1; cases a1
      exact hp (Lv.lst a2)
    rcases other e1 with ⟨rfl, e⟩ | ⟨hj, e1, e5⟩
    · rw [List.getElem?_set_self hi'] at e3; cases e3
      rcases other e2 with ⟨rfl, _⟩ | ⟨_, e2, e6⟩
      · rfl
      · rw [e6] at e4; exact (pn e2 e4).elim
    · rw [e5] at e3
      rcases other e2 with ⟨rfl, _⟩ | ⟨_, e2, e6⟩
      · rw [List.getElem?_set_self hi'] at e4; cases e4
        exact (pn e1 e3).elim
      · rw [e6] at e4
        exact E.inj j k b es fs e1 e2 e3 e4
  · rcases other e1 with ⟨rfl, e⟩ | ⟨_, e1, _⟩
    · cases e
    · rcases other e2 with ⟨rfl, e⟩ | ⟨_, e2, _⟩
      · cases e
      · exact E.io1 j k es fs e1 e2
  · rcases other e1 with ⟨rfl, e⟩ | ⟨_, e1, _⟩
    · cases e
    · exact E.slf j C ns es e1
  · rcases mutI b z with q | q
    · exact .inl q
    · exact .inr (by rw [q]; exact hp)
def tIl (G : Ctx) (W : WX) (K : PySem.W.Frag) (m : LM) : TE := fun σ H Q => ∃ H0 M0 A env, EnvR K H0 M0 A env σ H ∧ Sat K H0 M0 A W (evL G m env) env σ H fun ds e1 H1 => ds.length ≤ BIG ∧ ∀ vs p H', Stp NoA H1 H' → ¬ Lv H1 p → H' p = some (.lst vs) → RepL K H' (fun a => MM M0 e1 σ a ∨ a = p) ds vs → Q (.ref p) H'
theorem new_rep {K : PySem.W.Frag} {H : Hp} {M : AS} {p : Addr} {ds : List D} {vs : List V} (hp : H p = none) (r : RepL K H M ds vs) : RepL K (upd H p (.lst vs)) (fun a => M a ∨ a = p) ds vs :=
  RepL.stp (Stp.new hp) (fun _ z => z) ds vs (RepL.grow (fun a z => z.elim .inl fun q => .inr (by rw [q]; exact nn_of hp)) ds vs r)
theorem l_lst {es : List Expr} {is : List IR} {pos : Pos} (h : PA X es (tIs G W X.K is)) : PE X (.List es pos) (tIl G W X.K (.lst is)) := PE.by_ (pe_lst h) fun σ H Q q => by
  obtain ⟨H0, M0, A, env, E, q⟩ := q
  rw [evL] at q
  refine ⟨H0, M0, A, env, E, q.mono fun ds e1 H1 _ s1 u1 E1 h1 xs hx => ?_⟩
  have hs : sizeLine = 16777216 := sizeLine_eq
  exact ⟨by rw [← hx.length]; have := h1.1; unfold BIG at this; omega, fun p hp => h1.2 xs p _ (Stp.new hp) (nn_of hp) upd_same (new_rep hp hx)⟩
theorem st_new {tgE e : Expr} {i : Nat} {m : LM} {pos : Pos} (h : PS X (.Assign [tgE] e pos) (tAsg (tIl G W X.K m) (gName i))) : PS X (.Assign [tgE] e pos) (tS G W X.K (.new i m)) := PS.by_ h fun D σ H q => by
  obtain ⟨H0, M0, A, env, E, q⟩ := q
  rw [evS] at q
  refine ⟨H0, M0, A, env, E, (SatS.toS q).mono fun ds e1 H1 _ s1 u1 E1 h1 => ?_⟩
  by_cases hc : ds.length ≤ BIG ∧ freeB e1 i = true
  · rw [if_pos hc] at h1
    refine ⟨hc.1, fun vs p H' s hp h' r => ?_⟩
    obtain ⟨E2, u2⟩ := E1.setNew hc.2 hp s h' r
    exact h1 _ _ s.no u2 E2
  · rw [if_neg hc] at h1; exact h1.elim
end
end Mp
set_option maxHeartbeats 4000000
namespace Mp
open PySem L2 PyProof.Rows
variable [TabsW] [GdW]
section
variable {X : Cx} {G : Ctx} {W : WX}
theorem ix_in' {n : Nat} {k : Int} (h0 : 0 ≤ k) (h1 : k < n) : ixN n k = some k.toNat := by
  unfold ixN
  rw [if_pos h0, if_pos h1]
theorem place_at {K : PySem.W.Frag} {H0 H : Hp} {M0 A : AS} {env : Env} {σ : L2.St} {i : Nat} (E : EnvR K H0 M0 A env σ H) (h : placeB env i = true) : ∃ a, σ[i]? = some (some (V.ref a)) := by
  unfold placeB at h
  cases e : env[i]? with
  | none => rw [e] at h; cases h
  | some o =>
    rw [e] at h
    cases o with
    | none => cases h
    | some c =>
      cases c with
      | own ds => obtain ⟨a, xs, g, _⟩ := E.own i ds e; exact ⟨a, g⟩
      | io ds => obtain ⟨a, xs, g, _⟩ := E.io i ds e; exact ⟨a, g⟩
      | _ => cases h
theorem st_six {tgE e : Expr} {i : Nat} {ie e' : IR} {pos : Pos} (h : PS X (.Assign [tgE] e pos) (tAsg (tI G W X.K e') (gSub (tVar i) (tI G W X.K ie) rSetL))) : PS X (.Assign [tgE] e pos) (tS G W X.K (.six i ie e')) := PS.by_ h fun D σ H q => by
  obtain ⟨H0, M0, A, env, E, q⟩ := q
  rw [evS] at q
  refine take_readS E q fun d v e1 H1 E1 rd s1 u1 h1 => ?_
  by_cases ho : placeB e1 i = true
  · rw [if_pos ho] at h1
    obtain ⟨a, g1⟩ := place_at E1 ho
    refine ⟨_, g1, rd_readS E1 h1 fun k kv e2 H2 E2 rk s2 u2 h2 => ?_⟩
    have rd2 := hold rd E1.aM s2 u2
    cases k with
    | int k =>
      cases h3 : e2[i]? with
      | none => rw [h3] at h2; exact h2.elim
      | some c =>
        rw [h3] at h2
        cases c with
        | none => exact h2.elim
        | some c =>
          cases c with
          | own ds' =>
            dsimp only at h2
            by_cases hk : 0 ≤ k ∧ k < ds'.length
            · rw [if_pos hk] at h2
              obtain ⟨a', xs', f1, f2, f3, f4⟩ := E2.own i ds' h3
              rw [g1] at f1; cases f1
              refine ⟨a, xs', k, k.toNat, rfl, rk.int, f2, ix_in' hk.1 (by rw [← f3.length]; exact hk.2), ?_⟩
              have st : Stp (fun x => x = a) H2 (upd H2 a (.lst (xs'.set k.toNat v))) := Stp.set rfl (pl_at f2)
              have stM : Stp (MM M0 e2 σ) H2 (upd H2 a (.lst (xs'.set k.toNat v))) := st.weak fun x z => z ▸ .inr ⟨i, ds', h3, g1⟩
              obtain ⟨E3, u3, _⟩ := E2.setOwn h3 g1 st upd_same (out := ds'.set k.toNat d) ((RepL.stp stM (fun _ z => z) ds' xs' f3).set (Rep.stp stM (fun _ z => z) d v rd2))
              exact h2 σ _ (st.weak fun x z => z ▸ .inr ⟨i, ds', h3, g1⟩) u3.toS E3
            · rw [if_neg hk] at h2; exact h2.elim
          | io ds' =>
            dsimp only at h2
            by_cases hk : 0 ≤ k ∧ k < ds'.length
            · rw [if_pos hk] at h2
              obtain ⟨a', xs', f1, f0, f2, f3⟩ := E2.io i ds' h3
              rw [g1] at f1; cases f1
              refine ⟨a, xs', k, k.toNat, rfl, rk.int, f2, ix_in' hk.1 (by rw [← f3.length]; exact hk.2), ?_⟩
              have st : Stp (fun x => x = a) H2 (upd H2 a (.lst (xs'.set k.toNat v))) := Stp.set rfl (pl_at f2)
              have stM : Stp (MM M0 e2 σ) H2 (upd H2 a (.lst (xs'.set k.toNat v))) := st.weak fun x z => z ▸ .inl (E2.aM a f0)
              obtain ⟨E3, u3, _⟩ := E2.setIo h3 g1 st upd_same (out := ds'.set k.toNat d) ((RepL.stp stM (fun _ z => z) ds' xs' f3).set (Rep.stp stM (fun _ z => z) d v rd2))
              exact h2 σ _ (st.weak fun x z => z ▸ .inl f0) u3.toS E3
            · rw [if_neg hk] at h2; exact h2.elim
          | _ => exact h2.elim
    | _ => exact h2.elim
  · rw [if_neg ho] at h1; exact h1.elim
theorem names_par2 {i j : Nat} {vs : List V} {σ : L2.St} {H : Hp} {P : L2.St → Hp → Prop} (h : gNames [i, j] vs σ H P) : ∃ v w, vs = [v, w] ∧ P ((σ.set i (some v)).set j (some w)) H := by
  obtain ⟨v, r, rfl, w, r', rfl, rfl, h⟩ := h
  exact ⟨v, w, rfl, h⟩
theorem par_read {K : PySem.W.Frag} {ns : List Nat} {es : List IR} {D : Ends} {σ : L2.St} {H : Hp} (q : tS G W K (.par ns es) D σ H) : tIs G W K es σ H fun vs H1 => gNames ns vs σ H1 D.nx := by
  obtain ⟨H0, M0, A, env, E, q⟩ := q
  rw [evS] at q
  refine ⟨H0, M0, A, env, E, (SatS.toS q).mono fun ds e1 H1 _ s1 u1 E1 h1 vs r => ?_⟩
  cases hb : bindT (.tup ns) (.tup ds) e1 with
  | none => rw [hb] at h1; exact h1.elim
  | some e2 =>
    rw [hb] at h1
    unfold bindT at hb
    dsimp only at hb
    by_cases hc : ds.length = ns.length ∧ ns.all (freeB e1) = true
    · rw [if_pos hc] at hb
      cases hb
      exact names_read ns ds vs e1 σ _ E1 hc.2 hc.1 r fun σ' E' u' l' o' => h1 σ' H1 Stp.refl ⟨fun a z => .inl (u' a z), l'⟩ E'
    · rw [if_neg hc] at hb; cases hb
theorem st_par2 {s : Stmt} {i j : Nat} {es : List IR} (h : PS X s (tPar i j (tIs G W X.K es))) : PS X s (tS G W X.K (.par [i, j] es)) := PS.by_ h fun D σ H q => by
  obtain ⟨H0, M0, A, env, E, q⟩ := par_read q
  exact ⟨H0, M0, A, env, E, q.mono fun ds e1 H1 _ s1 u1 E1 h1 vs r => names_par2 (h1 vs r)⟩
end
def cellF (io : Option Nat) (i : Nat) (d : D) : Option Cell := if io = some i then (match d with
  | .lst es => some (.io es)
  | _ => none) else some (.dat d)
def cellsF (io : Option Nat) : Nat → List D → Env
  | _, [] => []
  | i, d :: ds => cellF io i d :: cellsF io (i + 1) ds
def startE (io : Option Nat) (m : Nat) (ds : List D) : Env := cellsF io 0 ds ++ List.replicate (m - ds.length) none
def outE (io : Option Nat) (e : Env) : Option (List D) := match io with
  | none => some []
  | some i => match e[i]? with
    | some (some (.io ds)) => some ds
    | _ => none
/-- what a def with the body b yields: m slots -/
def semB (G : Ctx) (m : Nat) (io : Option Nat) (b : List ST) (ds : List D) : FR := match evSs G b (startE io m ds) with
  | .rt d e => (match outE io e with
    | some out => .ok d out
    | none => .bad)
  | .nx e => (match outE io e with
    | some out => .ok .non out
    | none => .bad)
  | .rl ds e => (match outE io e with
    | some out => .ok (.lst ds) out
    | none => .bad)
  | .exc C f d e => (match outE io e with
    | some out => .exc C f d out
    | none => .bad)
  | _ => .bad
theorem cells_get {io : Option Nat} : ∀ {ds : List D} {n j : Nat} {c : Cell}, (cellsF io n ds)[j]? = some (some c) → ∃ d, ds[j]? = some d ∧ cellF io (n + j) d = some c
  | [], n, j, c, h => by unfold cellsF at h; simp at h
  | d :: ds, n, 0, c, h => by
    unfold cellsF at h
    simp only [List.getElem?_cons_zero, Option.some.injEq] at h
    exact ⟨d, by simp, h⟩
  | d :: ds, n, j + 1, c, h => by
    unfold cellsF at h
    rw [List.getElem?_cons_succ] at h
    obtain ⟨e, e1, e2⟩ := cells_get h
    exact ⟨e, by simpa using e1, by rw [show n + (j + 1) = n + 1 + j by omega]; exact e2⟩
theorem cells_len {io : Option Nat} : ∀ {ds : List D} {n : Nat}, (cellsF io n ds).length = ds.length
  | [], n => rfl
  | d :: ds, n => by unfold cellsF; simp [cells_len]
theorem start_get {io : Option Nat} {m : Nat} {ds : List D} {j : Nat} {c : Cell} (h : (startE io m ds)[j]? = some (some c)) : ∃ d, ds[j]? = some d ∧ cellF io j d = some c := by
  unfold startE at h
  by_cases hj : j < (cellsF io 0 ds).length
  · rw [List.getElem?_append_left hj] at h
    obtain ⟨d, a, b⟩ := cells_get h
    exact ⟨d, a, by rw [Nat.zero_add] at b; exact b⟩
  · rw [List.getElem?_append_right (by omega)] at h
    rw [List.getElem?_replicate] at h
    split at h <;> cases h
theorem start_at {N : List Str} {vs : List V} {j : Nat} {v : V} (h : vs[j]? = some v) : (L2.start N vs)[j]? = some (some v) := by
  unfold L2.start
  have hj : j < vs.length := (List.getElem?_eq_some_iff.mp h).1
  rw [List.getElem?_append_left (by simpa using hj), List.getElem?_map, h]
  rfl
section
variable {K : PySem.W.Frag} {G : Ctx}
theorem env0 {H : Hp} {M : AS} {io : Option Nat} {ds : List D} {vs : List V} {N : List Str} (hl : vs.length ≤ N.length) (hM : MOk M H) (ar : ArgR K H M io ds vs) : EnvR K H M (IoA io vs) (startE io N.length ds) (L2.start N vs) H ∧ ∀ a, ¬ MutAt (startE io N.length ds) (L2.start N vs) a := by
  obtain ⟨len, at_⟩ := ar
  have cells : ∀ {j c}, (startE io N.length ds)[j]? = some (some c) → ∃ d v, ds[j]? = some d ∧ vs[j]? = some v ∧ cellF io j d = some c := fun {j c} h => by
    obtain ⟨d, a, b⟩ := start_get h
    have hj : j < vs.length := by rw [← len]; exact (List.getElem?_eq_some_iff.mp a).1
    exact ⟨d, vs[j], a, List.getElem?_eq_getElem hj, b⟩
  have noM : ∀ a, ¬ MutAt (startE io N.length ds) (L2.start N vs) a := fun a ⟨j, es, e1, e2⟩ => by
    obtain ⟨d, v, h1, h2, h3⟩ := cells e1
    unfold cellF at h3
    split at h3
    · split at h3 <;> cases h3
    · cases h3
  have subM : ∀ a, MM M (startE io N.length ds) (L2.start N vs) a → M a := fun a z => z.elim id fun q => (noM a q).elim
  have isIo : ∀ {j es}, (startE io N.length ds)[j]? = some (some (Cell.io es)) → io = some j ∧ ds[j]? = some (.lst es) ∧ ∃ v, vs[j]? = some v := fun {j es} h => by
    obtain ⟨d, v, h1, h2, h3⟩ := cells h
    unfold cellF at h3
    split at h3
    · rename_i hio
      split at h3
      · cases h3; exact ⟨hio, h1, v, h2⟩
      · cases h3
    · cases h3
  refine ⟨⟨?_, fun a o h _ _ => h, fun _ h => h, hM.tb, hM.al, fun a ⟨i, e1, e2⟩ => ?_, fun a b ⟨i, e1, e2⟩ ⟨j, f1, f2⟩ => ?_, fun j d h => ?_, fun j es h => ?_, fun j es h => ?_, fun j k a es fs h1 h2 h3 h4 => ?_, fun j k es fs h1 h2 => ?_, fun j C ns es h => ?_⟩, noM⟩
  · unfold startE L2.start
    rw [List.length_append, cells_len, List.length_replicate, List.length_append, List.length_map, List.length_replicate, len]
  · have hj : i < ds.length := by rw [len]; exact (List.getElem?_eq_some_iff.mp e2).1
    obtain ⟨a', xs, es, _, z, m, _⟩ := (at_ i ds[i] _ (List.getElem?_eq_getElem hj) e2).2 e1
    cases z; exact m
  · rw [e1] at f1; cases f1
    rw [e2] at f2; cases f2
    rfl
  · obtain ⟨d', v, h1, h2, h3⟩ := cells h
    unfold cellF at h3
    split at h3
    · split at h3 <;> cases h3
    · rename_i hio
      cases h3
      exact ⟨v, start_at h2, Rep.stp Stp.refl subM d v ((at_ j d v h1 h2).1 hio)⟩
  · obtain ⟨d', v, h1, h2, h3⟩ := cells h
    unfold cellF at h3
    split at h3
    · split at h3 <;> cases h3
    · cases h3
  · obtain ⟨hio, h1, v, h2⟩ := isIo h
    obtain ⟨a, xs, es', z1, z2, z3, z4, z5⟩ := (at_ j _ v h1 h2).2 hio
    cases z1
    subst z2
    exact ⟨a, xs, start_at h2, ⟨j, hio, h2⟩, z4, RepL.stp Stp.refl subM es xs z5⟩
  · exact (noM a ⟨j, es, h1, h3⟩).elim
  · have a1 := (isIo h1).1
    have a2 := (isIo h2).1
    rw [a1] at a2
    exact Option.some.inj a2
  · obtain ⟨d', v, h1, h2, h3⟩ := cells h
    unfold cellF at h3
    split at h3
    · split at h3 <;> cases h3
    · cases h3
/-- from a promise to the reading of the body -/
theorem body_read {n : Nat} {io : Option Nat} {b : List ST} {N : List Str} {vs : List V} {H : Hp} {Q : VK} {E : XK} (hn : n ≤ N.length) (h : spF K n io (semB G N.length io b) vs H Q E) :
    tSs G (fun cls d _ H' => E cls d H') K b { nx := fun _ H' => Q .non H', rt := Q } (L2.start N vs) H := by
  obtain ⟨hl, M, ds, hM, ar, h⟩ := h
  obtain ⟨E0, noM⟩ := env0 (N := N) (by rw [hl]; exact hn) hM ar
  have fl : ∀ {e' : Env} {σ' : L2.St} {H' : Hp} {out : List D}, Stp (WW (IoA io vs) (startE io N.length ds) (L2.start N vs)) H H' → EnvR K H M (IoA io vs) e' σ' H' → outE io e' = some out → Stp (IoA io vs) H H' ∧ OutR K H' M io out vs := fun {e' σ' H' out} s E' ho => by
    refine ⟨s.weak fun a z => z.elim id fun q => (noM a q).elim, fun i hi => ?_⟩
    subst hi
    unfold outE at ho
    dsimp only at ho
    cases q : e'[i]? with
    | none => rw [q] at ho; cases ho
    | some c =>
      rw [q] at ho
      cases c with
      | none => cases ho
      | some c =>
        cases c with
        | io es =>
          cases ho
          obtain ⟨a, xs, a1, ⟨j, b1, b2⟩, a3, a4⟩ := E'.io i out q
          cases b1
          exact ⟨a, xs, b2, a3, RepL.stp Stp.refl (fun _ z => .inl z) out xs a4⟩
        | _ => cases ho
  refine ⟨H, M, IoA io vs, startE io N.length ds, E0, ?_⟩
  unfold semB at h
  cases hr : evSs G b (startE io N.length ds) with
  | bad => rw [hr] at h; exact h.elim
  | bk e => rw [hr] at h; exact h.elim
  | ct e => rw [hr] at h; exact h.elim
  | nx e =>
    rw [hr] at h
    dsimp only at h
    cases ho : outE io e with
    | none => rw [ho] at h; exact h.elim
    | some out =>
      rw [ho] at h
      intro σ' H' s u E'
      obtain ⟨f1, f2⟩ := fl s E' ho
      exact h .non H' f1 f2 rep_non
  | rt d e =>
    rw [hr] at h
    dsimp only at h
    cases ho : outE io e with
    | none => rw [ho] at h; exact h.elim
    | some out =>
      rw [ho] at h
      intro σ' v H' s u E' r
      obtain ⟨f1, f2⟩ := fl s E' ho
      exact h v H' f1 f2 (Rep.stp Stp.refl (fun _ z => .inl z) d v r)
  | rl d e =>
    rw [hr] at h
    dsimp only at h
    cases ho : outE io e with
    | none => rw [ho] at h; exact h.elim
    | some out =>
      rw [ho] at h
      intro σ' p vs H' s u E' h0 hM hp r
      obtain ⟨f1, f2⟩ := fl s E' ho
      refine h (.ref p) H' f1 f2 ?_
      unfold Rep
      exact ⟨p, vs, rfl, .inl ⟨hM, Rd.of hp⟩, RepL.stp Stp.refl (fun _ z => .inl z) d vs r⟩
  | exc C f d e =>
    rw [hr] at h
    dsimp only at h
    cases ho : outE io e with
    | none => rw [ho] at h; exact h.elim
    | some out =>
      rw [ho] at h
      intro σ' dd v H' s u E' hd r
      obtain ⟨f1, f2⟩ := fl s E' ho
      exact h dd v H' f1 f2 hd (Rep.stp Stp.refl (fun _ z => .inl z) d v r)
end
section
variable {P : Program} {w : World} {K : PySem.W.Frag} {mg : Str → Option Value} {base : Heap} {G : Ctx}
/-- THE RULE: a def by the text of its body -/
theorem fn_body {x qual : Str} {st : Stmt} {f : Addr} {fd : FuncData} {N ps : List Str} {k : Nat} {io : Option Nat} {b : List ST} (F : Fun K x qual st f fd) (S : FnScope N ps (defScope st)) (hn : ps.length ≤ N.length)
    (hb : ∀ (cdv : Value) (A : Around) (outer : List PySem.Env) (s : Shared) (H : Hp) (E : XK), Room k (A.deeper (envOfC qual (defScope st) s.heap.objs.size f cdv)) →
      PSs (cxOf (L2.CX P w) P w K mg base N qual (defScope st) f cdv A outer s H E) (defBody st) (tSs G (fun cls d _ H' => E cls d H') K b)) :
    FnOk P w K mg base (L2.CX P w) (k + 1) f fd ps (spF K ps.length io (semB G N.length io b)) :=
  fun_okX F S (fun vs H Q E h => h.1) fun cdv A outer s H vs Q E hr h => ⟨_, hb cdv A outer s H E hr, body_read hn h⟩
end
end Mp
set_option maxHeartbeats 4000000
namespace Mp
open PySem L2 PyProof.Rows
variable [TabsW] [GdW]
section
variable {X : Cx} {G : Ctx} {W : WX}
theorem st_retl {e : Expr} {m : LM} {pos : Pos} (he : PE X e (tIl G W X.K m)) : PS X (.Return (some e) pos) (tS G W X.K (.retl m)) := PS.by_ (ps_ret he) fun D σ H q => by
  obtain ⟨H0, M0, A, env, E, q⟩ := q
  rw [evS] at q
  refine ⟨H0, M0, A, env, E, (SatS.toS q).mono fun ds e1 H1 _ s1 u1 E1 h1 => ?_⟩
  by_cases hc : ds.length ≤ BIG
  · rw [if_pos hc] at h1
    exact ⟨hc, fun vs p H' s hp h' r => h1 σ p vs H' s.no SubS.refl (E1.keep s) (E1.freshL hp).2 (fun z => (E1.freshL hp).1 (.inl z)) h' (RepL.stp Stp.refl (fun a z => z.elim (fun q => .inl (.inl q)) .inr) ds vs r)⟩
  · rw [if_neg hc] at h1; exact h1.elim
end
def spFr (K : PySem.W.Frag) (n : Nat) (F : List D → FR) : Sp := fun vs H Q E => vs.length = n ∧ ∃ (M : AS) (ds : List D), MOk M H ∧ RepL K H M ds vs ∧ (match F ds with
  | .ok (.lst es) _ => es.length ≤ BIG ∧ ∀ p xs H', Stp NoA H H' → ¬ Lv H p → H' p = some (.lst xs) → RepL K H' (fun a => M a ∨ a = p) es xs → Q (.ref p) H'
  | .exc C f d _ => ∀ dd v H', Stp NoA H H' → H' dd = some (.xd [(f, v)]) → Rep K H' M d v → E (.ref (clsAt K C)) (some dd) H'
  | _ => False)
structure FrF (P : Program) (w : World) (K : PySem.W.Frag) (mg : Str → Option Value) (base : Heap) (k : Nat) (x : Str) (f : Fn) : Prop where
  dbg : (x == ("__debug__" : Str)) = false
  ex : ∃ (a : Addr) (fd : FuncData) (ps : List Str) (sp : Sp) (ds : List Value) (dvs : List V), mg x = some (.ref a) ∧ PySem.W.keepIn K (.ref a) = true ∧ FnOk P w K mg base (L2.CX P w) k a fd ps sp ∧ Binds K fd ps ds ∧ Vals dvs ds ∧
    ∀ vs H Q E, spFr K f.n f.sem vs H Q E → sp (vs ++ dvs) H Q E
section
variable {X : Cx} {G : Ctx} {W : WX}
theorem l_call {k j : Nat} {f : Fn} {x : Str} {e : Expr} {es : List Expr} {is : List IR} {p pos : Pos} (F : FrF X.prog X.w X.K X.mg X.base k x f) (hj : G.frs[j]? = some f) (hr : Room k X.A) (tk : Takes X W) (hg : Gl X x) (ha : PA X (e :: es) (tIs G W X.K is)) (h1 : (e :: es).any starB = false) :
    PE X (.Call (.Name x p) (e :: es) [] pos) (tIl G W X.K (.call j is)) := by
  rw [List.any_cons, Bool.or_eq_false_iff] at h1
  obtain ⟨a, fd, ps, sp, ds, dvs, hm, hk, ok, hb, hd, hs⟩ := F.ex
  refine PE.by_ (pe_callSD ok hr hg hm hk hb hd (fun σ => passAt tk σ) ha F.dbg (star_cons h1.1) (star_none h1.2)) fun σ H Q q => ?_
  obtain ⟨H0, M0, A, env, E, q⟩ := q
  rw [evL, hj] at q
  dsimp only at q
  by_cases hl : is.length = f.n
  · rw [if_pos hl] at q
    refine ⟨H0, M0, A, env, E, (Sat.bind q).mono fun vs e1 H1 he s1 u1 E1 h1 ws hw => hs ws H1 Q _ ?_⟩
    refine ⟨by rw [← hw.length, evs_len G is env vs e1 he]; exact hl, MM M0 e1 σ, vs, E1.mok, hw, ?_⟩
    cases e : f.sem vs with
    | bad => rw [e] at h1; exact h1.elim
    | ok d out =>
      rw [e] at h1
      cases d with
      | lst ds =>
        have h2 := h1 H1 Stp.refl Sub.refl E1
        exact ⟨h2.1, fun p xs H' s hp h' r => h2.2 xs p H' s hp h' r⟩
      | _ => exact h1.elim
    | exc C g d out =>
      rw [e] at h1
      intro dd v H' st hd rv
      exact h1 dd v H' st.no Sub.refl (E1.keep st) hd rv
  · rw [if_neg hl] at q; exact q.elim
/-- what such a body yields -/
def semBF (G : Ctx) (m : Nat) (b : List ST) (ds : List D) : FR := match evSs G b (startE none m ds) with
  | .rl es e => if es.length ≤ BIG then .ok (.lst es) [] else .bad
  | .exc C f d e => .exc C f d []
  | _ => .bad
theorem body_readF {K : PySem.W.Frag} {n : Nat} {b : List ST} {N : List Str} {vs : List V} {H : Hp} {Q : VK} {E : XK} (hn : n ≤ N.length) (h : spFr K n (semBF G N.length b) vs H Q E) :
    tSs G (fun cls d _ H' => E cls d H') K b { nx := fun _ H' => Q .non H', rt := Q } (L2.start N vs) H := by
  obtain ⟨hl, M, ds, hM, rr, h⟩ := h
  have ar : ArgR K H M none ds vs := ⟨rr.length, fun i d v h1 h2 => ⟨fun _ => by
    obtain ⟨v', g1, g2⟩ := rr.get h1
    rw [h2] at g1; cases g1
    exact g2, fun z => nomatch z⟩⟩
  obtain ⟨E0, noM⟩ := env0 (N := N) (by rw [hl]; exact hn) hM ar
  have fl : ∀ {H' : Hp}, Stp (WW (IoA none vs) (startE none N.length ds) (L2.start N vs)) H H' → Stp NoA H H' := fun {H'} s => s.weak fun a z => z.elim (fun ⟨i, z, _⟩ => nomatch z) fun q => (noM a q).elim
  refine ⟨H, M, IoA none vs, startE none N.length ds, E0, ?_⟩
  unfold semBF at h
  cases hr : evSs G b (startE none N.length ds) with
  | rl es e =>
    rw [hr] at h
    dsimp only at h
    by_cases hB : es.length ≤ BIG
    · rw [if_pos hB] at h
      intro σ' p xs H' s u E' h0 hM' hp r
      exact h.2 p xs H' (fl s) h0 hp r
    · rw [if_neg hB] at h; exact h.elim
  | exc C f d e =>
    rw [hr] at h
    intro σ' dd v H' s u E' hd r
    exact h dd v H' (fl s) hd (Rep.stp Stp.refl (fun _ z => .inl z) d v r)
  | _ => rw [hr] at h; exact h.elim
end
section
variable {P : Program} {w : World} {K : PySem.W.Frag} {mg : Str → Option Value} {base : Heap} {G : Ctx}
theorem fn_bodyF {x qual : Str} {st : Stmt} {f : Addr} {fd : FuncData} {N ps : List Str} {k : Nat} {b : List ST} (F : Fun K x qual st f fd) (S : FnScope N ps (defScope st)) (hn : ps.length ≤ N.length)
    (hb : ∀ (cdv : Value) (A : Around) (outer : List PySem.Env) (s : Shared) (H : Hp) (E : XK), Room k (A.deeper (envOfC qual (defScope st) s.heap.objs.size f cdv)) →
      PSs (cxOf (L2.CX P w) P w K mg base N qual (defScope st) f cdv A outer s H E) (defBody st) (tSs G (fun cls d _ H' => E cls d H') K b)) :
    FnOk P w K mg base (L2.CX P w) (k + 1) f fd ps (spFr K ps.length (semBF G N.length b)) :=
  fun_okX F S (fun vs H Q E h => h.1) fun cdv A outer s H vs Q E hr h => ⟨_, hb cdv A outer s H E hr, body_readF hn h⟩
end
section
variable {X : Cx} {G : Ctx} {W : WX}
theorem iota_rep {K : PySem.W.Frag} {H : Hp} {M : AS} : ∀ (n : Nat) (lo : Int), RepL K H M (iotaD lo n) ((List.range n).map fun i => V.int (lo + (i : Nat)))
  | 0, lo => by unfold iotaD RepL; rfl
  | n + 1, lo => by
    have e : ((List.range (n + 1)).map fun i => V.int (lo + (i : Nat))) = V.int lo :: ((List.range n).map fun i => V.int (lo + 1 + (i : Nat))) := by
      rw [List.range_succ_eq_map, List.map_cons, List.map_map]
      congr 1
      · simp
      · refine List.map_congr_left fun i _ => ?_
        show V.int (lo + ((i + 1 : Nat) : Int)) = V.int (lo + 1 + (i : Nat))
        congr 1
        omega
    rw [e]
    unfold iotaD
    exact RepL.cons (rep_int lo) (iota_rep n (lo + 1))
theorem e_lrng {a : Expr} {i : IR} {p1 p2 p3 p4 : Pos} (hc : X.calm = true) (hg : Gl X "list") (hm : X.mg "list" = none) (hg2 : Gl X "range") (hm2 : X.mg "range" = none) (ha : PE X a (tI G W X.K i)) (hs : starB a = false) :
    PE X (.Call (.Name "list" p1) [.Call (.Name "range" p2) [a] [] p3] [] p4) (tI G W X.K (.lrng i)) :=
  PE.by_ (pe_listRg hc hg hm (prg_1 hg2 hm2 ha (star_cons hs)) (star_cons rfl)) fun σ H Q q => by
    obtain ⟨H0, M0, A, env, E, q⟩ := q
    rw [ev] at q
    refine rd_read E q fun d v e1 H1 E1 rd s1 u1 h1 => ?_
    cases d with
    | int j =>
      have h1 : Sat X.K H0 M0 A W (if -1000000 ≤ j ∧ j ≤ BIG then R.ok (.val (.lst (iotaD 0 j.toNat))) e1 else .bad) e1 σ H1 (fun o e1 H1 => ∀ v, OpdR X.K M0 e1 σ H1 o v → Q v H1) := h1
      by_cases hj : -1000000 ≤ j ∧ j ≤ BIG
      · rw [if_pos hj] at h1
        have hB : (BIG : Int) = 100000 := rfl
        refine ⟨j, rd.int, ⟨by omega, by omega, by omega, by omega, by omega⟩, fun q hq => h1 _ (Stp.new hq) Sub.refl (E1.new hq) _ ?_⟩
        have e : rgV 0 j = (List.range j.toNat).map fun i => V.int (0 + (i : Nat)) := by unfold rgV; rw [Int.sub_zero]
        exact rep_new hq (E1.fresh hq).1 (by rw [e]; exact iota_rep _ _)
      · rw [if_neg hj] at h1; exact h1.elim
    | _ => exact h1.elim
def tyVal (K : PySem.W.Frag) : D → Value
  | .non => .type "NoneType"
  | .bl _ => .type "bool"
  | .int _ => .type "int"
  | .str _ => .type "str"
  | .lst _ => .type "list"
  | .tup _ => .type "tuple"
  | .obj C _ _ => .ref (clsAt K C)
  | .raw _ => .none
theorem is_ty {K : PySem.W.Frag} {cs : List Str} (hc : ∀ C, C ∈ cs → IsC K C) {H : Hp} {M : AS} {d : D} {v : V} (r : RepT K H M d v) (k : knownB cs d = true) : TyX K H v (tyVal K d) := by
  cases d with
  | non => rw [r.non]; exact .base .non
  | bl b => rw [r.bl]; exact .base (.bl b)
  | int i => rw [r.int]; exact .base (.int i)
  | str i => rw [r.str]; exact .base (.str i)
  | lst ds =>
    obtain ⟨a, xs, rfl, h, _⟩ := r
    rcases h with (h | ⟨o, h⟩) | ⟨o, its, n, h, hc, _⟩
    · exact .base (.lst h)
    · exact .base (.frz h)
    · exact .kList h hc
  | tup ds =>
    obtain ⟨a, xs, rfl, h, _⟩ := r
    rcases h with h | ⟨o, h⟩
    · exact .base (.tup h)
    · exact .fTuple h
  | obj C ns ds =>
    have r' : Rep K H M (.obj C ns ds) v := r
    unfold Rep at r'
    obtain ⟨a, dx, xs, rfl, _, h, _⟩ := r'
    have hC : C ∈ cs := by
      unfold knownB at k
      simpa using k
    have I := hc C hC
    exact .base (.ins h I.cl I.ha I.hn I.ht I.hm)
  | raw w => cases k
theorem is_kit {K : PySem.W.Frag} {cs : List Str} {d : D} (k : knownB cs d = true) {T : Ty} {u : Value} (h : IsK K cs T u) : PySem.W.kitOne K (tyVal K d) u = some (tyD T d) := by
  cases d with
  | non => exact h.n
  | bl b => exact h.b.trans (by cases T <;> rfl)
  | int i => exact h.i.trans (by cases T <;> rfl)
  | str i => exact h.s.trans (by cases T <;> rfl)
  | lst ds => exact h.l.trans (by cases T <;> rfl)
  | tup ds => exact h.t.trans (by cases T <;> rfl)
  | obj C ns ds =>
    have hC : C ∈ cs := by
      unfold knownB at k
      simpa using k
    exact (h.c C hC).trans (by cases T <;> rfl)
  | raw w => cases k
theorem e_isin2 {a c1 c2 : Expr} {a' : IR} {T1 T2 : Ty} {v1 v2 : V} {u1 u2 : Value} {k : Nat} {p pos tp : Pos} (hc : ∀ C, C ∈ G.cls → IsC X.K C) (hK1 : IsK X.K G.cls T1 u1) (hK2 : IsK X.K G.cls T2 u2) (hv1 : ClsV v1 u1) (hv2 : ClsV v2 u2) (ha : PE X a (tI G W X.K a'))
    (h1 : PE X c1 (tC v1)) (h2 : PE X c2 (tC v2)) (hg : Gl X "isinstance") (hm : X.mg "isinstance" = none) (s1 : starB a = false) (s2 : starB c1 = false) (s3 : starB c2 = false) :
    PE X (.Call (.Name "isinstance" p) [a, .Tuple [c1, c2] k tp] [] pos) (tI G W X.K (.isin a' [T1, T2])) :=
  PE.by_ (pe_callB call_isiT hg hm (by decide +kernel) (pa_cons ha (pa_cons (pe_tup (pa_cons h1 (pa_cons h2 pa_nil (star_cons s3)) (star_cons s2))) pa_nil (star_cons rfl)) (star_cons s1)) (by decide) (by decide) (star_cons s1) (star_none rfl)) fun σ H Q q => by
    obtain ⟨H0, M0, A, env, E, q⟩ := q
    rw [ev] at q
    refine ⟨H0, M0, A, env, E, (Sat.bind q).mono fun o e1 H1 _ s1 u1 E1 h1 x hx => ?_⟩
    cases e : rdO e1 o with
    | none => rw [e] at h1; exact h1.elim
    | some d =>
      rw [e] at h1
      dsimp only at h1
      by_cases hk : knownB G.cls d = true
      · rw [if_pos hk] at h1
        have hs : sizeLine = 16777216 := sizeLine_eq
        refine ⟨by rw [hs]; show 2 ≤ 16777216; decide, fun t ht => ?_⟩
        have st : Stp NoA H1 (upd H1 t (.tup [v1, v2])) := Stp.new ht
        have hx2 := hx.hold E1.aM st.no Sub.refl
        refine ⟨x, t, [v1, v2], tyVal X.K d, [_, _], tyD T1 d || tyD T2 d, rfl, upd_same, .cons hv1 (.cons hv2 .nil), is_ty hc (hx2.rdT (E1.keep st) e) hk, ?_, ?_⟩
        · unfold PySem.W.kitAny
          rw [is_kit hk hK1]
          cases e1 : tyD T1 d with
          | true => rfl
          | false =>
            unfold PySem.W.kitAny
            dsimp only
            rw [is_kit hk hK2]
            cases e2 : tyD T2 d with
            | true => rfl
            | false => rfl
        · have h2 := h1 _ st.no Sub.refl (E1.keep st) (.bl ([T1, T2].any fun T => tyD T d)) (show Rep X.K (upd H1 t (HO.tup [v1, v2])) (MM M0 e1 σ) (.bl _) (.bl _) from rep_bl _)
          simpa using h2
      · rw [if_neg hk] at h1; exact h1.elim
end
end Mp
set_option maxHeartbeats 4000000
set_option maxHeartbeats 4000000
namespace Mp
open PySem L2 PyProof.Rows
variable [TabsW] [GdW]
section
variable {X : Cx} {G : Ctx} {W : WX} {a b c : Expr} {a' b' c' : IR} {pos p : Pos} {j : Nat}
theorem xi {n : Int} : PE X (.Constant (.int n) j pos) (tI G W X.K (.c (.int n))) := e_c pe_int fun _ _ => rep_int _
theorem xb {n : Bool} : PE X (.Constant (.bool n) j pos) (tI G W X.K (.c (.bl n))) := e_c pe_bl fun _ _ => rep_bl _
theorem xn : PE X (.Constant .none j pos) (tI G W X.K (.c .non)) := e_c pe_non fun _ _ => rep_non
theorem xs {n : Str} : PE X (.Constant (.str n) j pos) (tI G W X.K (.c (.str n))) := e_c pe_str fun _ _ => rep_str _
theorem s_mul' {K : PySem.W.Frag} : OpS K rMulU mulD := by
  have e : mulD = (fun p q => match p, q with | .int _, .int _ => mulD p q | _, _ => none) := by
    funext p q
    cases p <;> cases q <;> rfl
  rw [e]
  exact s_mul
theorem x_add (ha : PE X a (tI G W X.K a')) (hb : PE X b (tI G W X.K b')) : PE X (.BinOp a .Add b pos) (tI G W X.K (.bin .add a' b')) := e_bin op_addU s_add ha hb
theorem x_sub (ha : PE X a (tI G W X.K a')) (hb : PE X b (tI G W X.K b')) : PE X (.BinOp a .Sub b pos) (tI G W X.K (.bin .sub a' b')) := e_bin op_sub s_sub ha hb
theorem x_mul (ha : PE X a (tI G W X.K a')) (hb : PE X b (tI G W X.K b')) : PE X (.BinOp a .Mult b pos) (tI G W X.K (.bin .mul a' b')) := e_bin op_mul s_mul' ha hb
theorem x_fdiv (ha : PE X a (tI G W X.K a')) (hb : PE X b (tI G W X.K b')) : PE X (.BinOp a .FloorDiv b pos) (tI G W X.K (.bin .fdiv a' b')) := e_bin op_fdiv s_fdiv ha hb
theorem x_mod (ha : PE X a (tI G W X.K a')) (hb : PE X b (tI G W X.K b')) : PE X (.BinOp a .Mod b pos) (tI G W X.K (.bin .mod a' b')) := e_bin op_mod s_mod ha hb
theorem x_pow (ha : PE X a (tI G W X.K a')) (hb : PE X b (tI G W X.K b')) : PE X (.BinOp a .Pow b pos) (tI G W X.K (.bin .pow a' b')) := e_bin op_pow s_pow ha hb
theorem x_lt (ha : PE X a (tI G W X.K a')) (hb : PE X b (tI G W X.K b')) : PE X (.Compare a [.Lt] [b] pos) (tI G W X.K (.cmp .lt a' b')) := e_cmp op_lt s_lt ha hb (nomark _)
theorem x_ge (ha : PE X a (tI G W X.K a')) (hb : PE X b (tI G W X.K b')) : PE X (.Compare a [.GtE] [b] pos) (tI G W X.K (.cmp .ge a' b')) := e_cmp op_ge s_ge ha hb (nomark _)
theorem x_eq (hu : X.A.units + 64 < cLine) (ha : PE X a (tI G W X.K a')) (hb : PE X b (tI G W X.K b')) : PE X (.Compare a [.Eq] [b] pos) (tI G W X.K (.cmp .eq a' b')) := e_cmp (op_eqD hu) s_eq ha hb (nomark _)
theorem x_is (ha : PE X a (tI G W X.K a')) (hb : PE X b (tI G W X.K b')) : PE X (.Compare a [.Is] [b] pos) (tI G W X.K (.cmp .is_ a' b')) := e_cmp (OpR.or op_isN op_is_bl) s_is ha hb (nomark _)
theorem y_lt (ha : PE X a (tI G W X.K a')) (hb : PE X b (tI G W X.K b')) : PT X (.Compare a [.Lt] [b] pos) (tIt G W X.K (.cmp .lt a' b')) := t_cmp op_lt s_lt ha hb (nomark _)
theorem y_le (ha : PE X a (tI G W X.K a')) (hb : PE X b (tI G W X.K b')) : PT X (.Compare a [.LtE] [b] pos) (tIt G W X.K (.cmp .le a' b')) := t_cmp op_le s_le ha hb (nomark _)
theorem y_gt (ha : PE X a (tI G W X.K a')) (hb : PE X b (tI G W X.K b')) : PT X (.Compare a [.Gt] [b] pos) (tIt G W X.K (.cmp .gt a' b')) := t_cmp op_gt s_gt ha hb (nomark _)
theorem y_eq (hu : X.A.units + 64 < cLine) (ha : PE X a (tI G W X.K a')) (hb : PE X b (tI G W X.K b')) : PT X (.Compare a [.Eq] [b] pos) (tIt G W X.K (.cmp .eq a' b')) := t_cmp (op_eqD hu) s_eq ha hb (nomark _)
theorem y_ne (hu : X.A.units + 64 < cLine) (ha : PE X a (tI G W X.K a')) (hb : PE X b (tI G W X.K b')) : PT X (.Compare a [.NotEq] [b] pos) (tIt G W X.K (.cmp .ne a' b')) := t_cmp (op_neD hu) s_ne ha hb (nomark _)
theorem y_is (ha : PE X a (tI G W X.K a')) (hb : PE X b (tI G W X.K b')) : PT X (.Compare a [.Is] [b] pos) (tIt G W X.K (.cmp .is_ a' b')) := t_cmp (OpR.or op_isN op_is_bl) s_is ha hb (nomark _)
theorem y_isnot (ha : PE X a (tI G W X.K a')) (hb : PE X b (tI G W X.K b')) : PT X (.Compare a [.IsNot] [b] pos) (tIt G W X.K (.cmp .isnot a' b')) := t_cmp (OpR.or op_notN op_isnot_bl) s_isnot ha hb (nomark _)
theorem any1 (h : starB a = false) : ([a] : List Expr).any starB = false := by rw [List.any_cons, h]; rfl
theorem any2 (h : starB a = false) (h2 : starB b = false) : ([a, b] : List Expr).any starB = false := by rw [List.any_cons, h, List.any_cons, h2]; rfl
theorem b_len (hm : X.mg "len" = none) (hg : Gl X "len") (ha : PE X a (tI G W X.K a')) (hs : starB a = false) : PE X (.Call (.Name "len" p) [a] [] pos) (tI G W X.K (.blt .len [a'])) := e_bltF call_len s_len hg hm (by decide +kernel) (ar_cons ha ar_nil hs) (any1 hs) (by decide) (by decide)
theorem b_int (hm : X.mg "int" = none) (hg : Gl X "int") (ha : PE X a (tI G W X.K a')) (hs : starB a = false) : PE X (.Call (.Name "int" p) [a] [] pos) (tI G W X.K (.blt .int [a'])) := e_bltT call_int1 s_int hg hm (by decide +kernel) (ar_cons ha ar_nil hs) (any1 hs) (by decide) (by decide)
theorem b_max (hc : X.calm = true) (hm : X.mg "max" = none) (hg : Gl X "max") (ha : PE X a (tI G W X.K a')) (hb : PE X b (tI G W X.K b')) (hs : starB a = false) (hs2 : starB b = false) : PE X (.Call (.Name "max" p) [a, b] [] pos) (tI G W X.K (.blt .max2 [a', b'])) := e_bltF (call_max2 hc) s_max2 hg hm (by decide +kernel) (ar_cons ha (ar_cons hb ar_nil hs2) hs) (any2 hs hs2) (by decide) (by decide)
theorem b_min (hc : X.calm = true) (hm : X.mg "min" = none) (hg : Gl X "min") (ha : PE X a (tI G W X.K a')) (hb : PE X b (tI G W X.K b')) (hs : starB a = false) (hs2 : starB b = false) : PE X (.Call (.Name "min" p) [a, b] [] pos) (tI G W X.K (.blt .min2 [a', b'])) := e_bltF (call_min2 hc) s_min2 hg hm (by decide +kernel) (ar_cons ha (ar_cons hb ar_nil hs2) hs) (any2 hs hs2) (by decide) (by decide)
theorem b_sorted (hm : X.mg "sorted" = none) (hg : Gl X "sorted") (ha : PE X a (tI G W X.K a')) (hs : starB a = false) : PE X (.Call (.Name "sorted" p) [a] [] pos) (tI G W X.K (.blt .sorted [a'])) := e_bltF cr_sortedI s_sorted hg hm (by decide +kernel) (ar_cons ha ar_nil hs) (any1 hs) (by decide) (by decide)
theorem b_list (hm : X.mg "list" = none) (hg : Gl X "list") (ha : PE X a (tI G W X.K a')) (hs : starB a = false) : PE X (.Call (.Name "list" p) [a] [] pos) (tI G W X.K (.blt .list [a'])) := e_bltT call_list_of s_list hg hm (by decide +kernel) (ar_cons ha ar_nil hs) (any1 hs) (by decide) (by decide)
theorem b_tuple (hm : X.mg "tuple" = none) (hg : Gl X "tuple") (ha : PE X a (tI G W X.K a')) (hs : starB a = false) : PE X (.Call (.Name "tuple" p) [a] [] pos) (tI G W X.K (.blt .tuple [a'])) := e_bltT call_tuple_of s_tuple hg hm (by decide +kernel) (ar_cons ha ar_nil hs) (any1 hs) (by decide) (by decide)
theorem b_all (hc : X.calm = true) (hm : X.mg "all" = none) (hg : Gl X "all") (ha : PE X a (tI G W X.K a')) (hs : starB a = false) : PE X (.Call (.Name "all" p) [a] [] pos) (tI G W X.K (.blt .all [a'])) := e_bltF (cr_all hc) s_all hg hm (by decide +kernel) (ar_cons ha ar_nil hs) (any1 hs) (by decide) (by decide)
theorem hu64 {A : Around} {k : Nat} (hr : Room k A) : A.units + 64 < cLine := by have := hr.r.un; omega
/-- name = [.. for ..] -/
theorem st_lc {i : Nat} {s : Stmt} {tg : Tgt} {it : IT} {t : Option IR} {e : IR} {own : List Nat} (h : PS X s (tAsg (tLc (tIi G W X.K it) (gT X.K tg) (tIf' G wNo X.K t) (tI G wNo X.K e) own) (gName i))) : PS X s (tAsg (tI G W X.K (.lc tg it t e own)) (gT X.K (.name i))) := PS.by_ h fun D σ H q => lc_imp q
end
end Mp
set_option maxHeartbeats 4000000
set_option maxHeartbeats 4000000
set_option maxHeartbeats 4000000
namespace Mp
open PySem L2 PyProof.Rows
variable [TabsW] [GdW]
section
variable {P : Program} {w : World} {K : PySem.W.Frag} {mg : Str → Option Value} {base : Heap} {k : Nat} {x : Str} {a : Addr} {fd : FuncData} {ps : List Str}
theorem fnF_mk {n : Nat} {io : Option Nat} {sem : List D → FR} (hd : (x == ("__debug__" : Str)) = false) (hm : mg x = some (.ref a)) (hk : PySem.W.keepIn K (.ref a) = true) (ok : FnOk P w K mg base (L2.CX P w) k a fd ps (spF K n io sem)) (hb : Binds K fd ps []) : FnF P w K mg base k x ⟨n, io, sem⟩ :=
  ⟨hd, a, fd, ps, _, [], [], hm, hk, ok, hb, .nil, fun vs H Q E h => by rw [List.append_nil]; exact h⟩
theorem frF_mk {n : Nat} {io : Option Nat} {sem : List D → FR} (hd : (x == ("__debug__" : Str)) = false) (hm : mg x = some (.ref a)) (hk : PySem.W.keepIn K (.ref a) = true) (ok : FnOk P w K mg base (L2.CX P w) k a fd ps (spFr K n sem)) (hb : Binds K fd ps []) : FrF P w K mg base k x ⟨n, io, sem⟩ :=
  ⟨hd, a, fd, ps, _, [], [], hm, hk, ok, hb, .nil, fun vs H Q E h => by rw [List.append_nil]; exact h⟩
/-- what law(script) promises: for a list of at most 63 ints the answer is True -/
def spLaw (K : PySem.W.Frag) : Sp := fun vs H Q _ => ∃ (a : Addr) (ns : List Int), (∀ P q, (P, q) ∈ TabsW.T → LamX.TabS H P q) ∧ vs = [.ref a] ∧ SqL K H a (ns.map V.int) ∧ ns.length ≤ 63 ∧ ∀ H', Q (.bl true) H'
theorem law_imp {sem : List D → FR} (math : ∀ ns : List Int, ns.length ≤ 63 → ∃ out, sem [.lst (ns.map .int)] = .ok (.bl true) out) {vs : List V} {H : Hp} {Q : VK} {E : XK} (h : spLaw K vs H Q E) : spF K 1 none sem vs H Q E := by
  obtain ⟨a, ns, hT, rfl, hS, hl, q⟩ := h
  have r : Rep K H NoA (.lst (ns.map .int)) (.ref a) := by
    unfold Rep
    exact ⟨a, _, rfl, RdK.ofS id hS, RepL.of_ints ns⟩
  refine ⟨rfl, NoA, [.lst (ns.map .int)], ⟨fun _ z => z.elim, hT⟩, ⟨rfl, fun i d v h1 h2 => ⟨fun _ => ?_, fun z => nomatch z⟩⟩, ?_⟩
  · obtain ⟨v', g1, g2⟩ := (RepL.cons r RepL.nil).get h1
    rw [h2] at g1; cases g1
    exact g2
  · obtain ⟨out, e⟩ := math ns hl
    rw [e]
    intro v H' _ _ rv
    unfold Rep at rv
    rw [rv]
    exact q H'
end
end Mp
set_option maxHeartbeats 4000000
namespace Mp
open PySem L2
variable [TabsW] [GdW]
section
variable {G : Ctx}
theorem eva_vals {io : Option Nat} : ∀ (es : List IR) (n : Nat) (env : Env), (∀ i, io = some i → i < n) → eva G io n es env = (evs G es env).bind fun ds e1 => .ok (ds.map Opd.val, []) e1
  | [], n, env, h => by rw [eva, evs]; rfl
  | e :: es, n, env, h => by
    rw [eva, evs, if_neg (fun z => Nat.lt_irrefl _ (h n z))]
    cases (ev G e env).take with
    | bad => rfl
    | exc C f d e1 => rfl
    | ok d e1 =>
      show ((eva G io (n + 1) es e1).bind fun p e2 => R.ok (Opd.val d :: p.1, p.2) e2) = ((evs G es e1).bind fun ds e2 => R.ok (d :: ds) e2).bind fun ds e1 => .ok (ds.map Opd.val, []) e1
      rw [eva_vals es (n + 1) e1 fun i z => Nat.lt_succ_of_lt (h i z)]
      cases evs G es e1 with
      | bad => rfl
      | exc C f d e1 => rfl
      | ok ds e2 => rfl
theorem rd_vals {env : Env} : ∀ (ds : List D), (ds.map Opd.val).mapM (rdO env) = some ds
  | [] => rfl
  | d :: ds => by rw [List.map_cons, List.mapM_cons, rd_vals ds]; rfl
def runF (env : Env) : FR → R Opd
  | .ok d _ => .ok (.val d) env
  | .exc C f d _ => .exc C f d env
  | .bad => .bad
/-- a call, nothing handed over -/
theorem ev_call {j : Nat} {f : Fn} {es : List IR} {env : Env} (hj : G.fns[j]? = some f) (hio : f.io = none) (hn : es.length = f.n) : ev G (.call j es) env = (evs G es env).bind fun ds e1 => runF e1 (f.sem ds) := by
  rw [ev, hj]
  dsimp only
  rw [if_pos hn, hio, eva_vals (io := none) es 0 env (fun i z => by cases z)]
  cases evs G es env with
  | bad => rfl
  | exc C f d e1 => rfl
  | ok ds e1 =>
    show (match (ds.map Opd.val).mapM (rdO e1) with
      | some ds => frR e1 none [] (f.sem ds)
      | none => .bad) = runF e1 (f.sem ds)
    rw [rd_vals]
    dsimp only
    cases f.sem ds <;> rfl
/-- a call whose first argument is a list that it changes -/
theorem ev_call_io {j i : Nat} {f : Fn} {es : List IR} {env : Env} {ds : List D} (hj : G.fns[j]? = some f) (hio : f.io = some 0) (hn : es.length + 1 = f.n) (hi : env[i]? = some (some (.own ds)) ∨ env[i]? = some (some (.io ds))) :
    ev G (.call j (.v i :: es)) env = (evs G es env).bind fun vs e1 => match (cellAt e1 i).map content with
      | some d0 => frR e1 (some 0) [i] (f.sem (d0 :: vs))
      | none => .bad := by
  rw [ev, hj]
  dsimp only
  rw [if_pos (by rw [List.length_cons]; exact hn), hio, eva, if_pos rfl]
  have hv : ev G (.v i) env = .ok (.pl i) env := by
    rw [ev]
    unfold cellAt
    rcases hi with h | h <;> (rw [h]; rfl)
  rw [hv]
  show ((eva G (some 0) 1 es env).bind fun p e2 => R.ok (Opd.pl i :: p.1, i :: p.2) e2).bind _ = _
  rw [eva_vals es 1 env fun i z => by cases z; decide]
  cases evs G es env with
  | bad => rfl
  | exc C f d e1 => rfl
  | ok vs e1 =>
    show (match (Opd.pl i :: vs.map Opd.val).mapM (rdO e1) with
      | some ds => frR e1 (some 0) [i] (f.sem ds)
      | none => .bad) = _
    rw [List.mapM_cons, rd_vals]
    show (match (do let r ← (cellAt e1 i).map content; let rs ← some vs; pure (r :: rs)) with
      | some ds => frR e1 (some 0) [i] (f.sem ds)
      | none => R.bad) = (match (cellAt e1 i).map content with
      | some d0 => frR e1 (some 0) [i] (f.sem (d0 :: vs))
      | none => .bad)
    cases (cellAt e1 i).map content with
    | none => rfl
    | some d0 => rfl
theorem evq_c {d : D} {env : Env} : ev G (.c d) env = (.ok (.val d) env) := by first | (rw [ev]; done) | (rw [ev]; rfl)
theorem evq_v {i : Nat} {env : Env} : ev G (.v i) env = (match cellAt env i with
    | some (.dat d) => .ok (.val d) env
    | some (.own _) => .ok (.pl i) env
    | some (.io _) => .ok (.pl i) env
    | _ => .bad) := by first | (rw [ev]; done) | (rw [ev]; rfl)
theorem evq_bin {op : BOp} {a : IR} {b : IR} {env : Env} : ev G (.bin op a b) env = ((ev G a env).bind fun x e1 => (ev G b e1).bind fun y e2 => match rdO e2 x, rdO e2 y with
    | some p, some q => lift e2 (binD op p q)
    | _, _ => .bad) := by first | (rw [ev]; done) | (rw [ev]; rfl)
theorem evq_cmp {op : COp} {a : IR} {b : IR} {env : Env} : ev G (.cmp op a b) env = ((ev G a env).bind fun x e1 => (ev G b e1).bind fun y e2 => match rdO e2 x, rdO e2 y with
    | some p, some q => lift e2 ((cmpD op p q).map .bl)
    | _, _ => .bad) := by first | (rw [ev]; done) | (rw [ev]; rfl)
theorem evq_chn {op1 : COp} {op2 : COp} {a : IR} {b : IR} {c : IR} {env : Env} : ev G (.chn op1 op2 a b c) env = ((ev G a env).bind fun x e1 => (ev G b e1).bind fun y e2 => match rdO e2 x, rdO e2 y with
    | some p, some q => (match cmpD op1 p q with
      | some true => (ev G c e2).bind fun z e3 => (match rdO e3 y, rdO e3 z with
        | some p, some q => lift e3 ((cmpD op2 p q).map .bl)
        | _, _ => .bad)
      | some false => .ok (.val (.bl false)) e2
      | none => .bad)
    | _, _ => .bad) := by first | (rw [ev]; done) | (rw [ev]; rfl)
theorem evq_and_ {a : IR} {b : IR} {env : Env} : ev G (.and_ a b) env = ((ev G a env).bind fun x e1 => match (rdO e1 x).bind truD with
    | some true => ev G b e1
    | some false => .ok x e1
    | none => .bad) := by first | (rw [ev]; done) | (rw [ev]; rfl)
theorem evq_or_ {a : IR} {b : IR} {env : Env} : ev G (.or_ a b) env = ((ev G a env).bind fun x e1 => match (rdO e1 x).bind truD with
    | some true => .ok x e1
    | some false => ev G b e1
    | none => .bad) := by first | (rw [ev]; done) | (rw [ev]; rfl)
theorem evq_not_ {a : IR} {env : Env} : ev G (.not_ a) env = ((ev G a env).bind fun x e1 => match (rdO e1 x).bind truD with
    | some b => .ok (.val (.bl (!b))) e1
    | none => .bad) := by first | (rw [ev]; done) | (rw [ev]; rfl)
theorem evq_neg {a : IR} {env : Env} : ev G (.neg a) env = ((ev G a env).bind fun x e1 => match x with
    | .val (.int i) => .ok (.val (.int (-i))) e1
    | _ => .bad) := by first | (rw [ev]; done) | (rw [ev]; rfl)
theorem evq_ite {t : IR} {a : IR} {b : IR} {env : Env} : ev G (.ite t a b) env = ((truR (ev G t env)).bind fun c e1 => if c then ev G a e1 else ev G b e1) := by first | (rw [ev]; done) | (rw [ev]; rfl)
theorem evq_tup {es : List IR} {env : Env} : ev G (.tup es) env = ((evs G es env).bind fun ds e1 => if ds.length ≤ BIG then .ok (.val (.tup ds)) e1 else .bad) := by first | (rw [ev]; done) | (rw [ev]; rfl)
theorem evq_lst {es : List IR} {env : Env} : ev G (.lst es) env = ((evs G es env).bind fun ds e1 => if ds.length ≤ BIG then .ok (.val (.lst ds)) e1 else .bad) := by first | (rw [ev]; done) | (rw [ev]; rfl)
theorem evq_ix {a : IR} {b : IR} {env : Env} : ev G (.ix a b) env = ((ev G a env).bind fun x e1 => (ev G b e1).bind fun y e2 => match rdO e2 x, rdO e2 y with
    | some p, some q => lift e2 (ixD p q)
    | _, _ => .bad) := by first | (rw [ev]; done) | (rw [ev]; rfl)
theorem evq_blt {b : Blt} {es : List IR} {env : Env} : ev G (.blt b es) env = ((evr G es env).bind fun os e1 => match os.mapM (rdO e1) with
    | some ds => lift e1 (bltD b ds)
    | none => .bad) := by first | (rw [ev]; done) | (rw [ev]; rfl)
theorem evq_isin {a : IR} {ts : List Ty} {env : Env} : ev G (.isin a ts) env = ((ev G a env).bind fun x e1 => match rdO e1 x with
    | some d => if knownB G.cls d then .ok (.val (.bl (ts.any fun t => tyD t d))) e1 else .bad
    | none => .bad) := by first | (rw [ev]; done) | (rw [ev]; rfl)
theorem evq_app {i : Nat} {e : IR} {env : Env} : ev G (.app i e) env = (if ownB env i then (ev G e env).take.bind fun d e1 => match e1[i]? with
    | some (some (.own ds)) => if ds.length < BIG then .ok (.val .non) (e1.set i (some (.own (ds ++ [d])))) else .bad
    | _ => .bad
    else .bad) := by first | (rw [ev]; done) | (rw [ev]; rfl)
theorem evq_lrng {e : IR} {env : Env} : ev G (.lrng e) env = ((ev G e env).rd.bind fun d e1 => match d with
    | .int j => if -1000000 ≤ j ∧ j ≤ BIG then .ok (.val (.lst (iotaD 0 j.toNat))) e1 else .bad
    | _ => .bad) := by first | (rw [ev]; done) | (rw [ev]; rfl)
end
end Mp
set_option maxHeartbeats 4000000
namespace Mp
open PySem L2
variable [TabsW] [GdW]
theorem back_same {env0 env' : Env} {i : Nat} (h : env'.set i none = env0.set i none) : backE env0 env' [i] = env0 := by
  unfold backE
  unfold backE
  have e : env'.set i (env0[i]?).join = env0.set i (env0[i]?).join := by
    have e1 : env'.set i (env0[i]?).join = (env'.set i none).set i (env0[i]?).join := by rw [List.set_set]
    rw [e1, h, List.set_set]
  rw [e]
  by_cases hi : i < env0.length
  · rw [List.getElem?_eq_getElem hi]
    simp
  · rw [List.set_eq_of_length_le (by omega)]
theorem free_wipe {env : Env} {i : Nat} (hi : i < env.length) : freeB (env.set i none) i = true := by
  unfold freeB
  rw [List.getElem?_set_self hi]
theorem lcLoop_filter {env0 : Env} {i : Nat} {T : Option (Env → R Bool)} {E : Env → R D} {p : D → Bool} {g : D → D} (hi : i < env0.length) : ∀ (ds : List D) (env : Env), env.set i none = env0.set i none →
    (∀ d, d ∈ ds → (match T with
      | none => R.ok true (env0.set i (some (.dat d)))
      | some t => t (env0.set i (some (.dat d)))) = .ok (p d) (env0.set i (some (.dat d)))) →
    (∀ d, d ∈ ds → p d = true → E (env0.set i (some (.dat d))) = .ok (g d) (env0.set i (some (.dat d)))) →
    ∃ env', lcLoop [i] (.name i) T E ds env = .ok ((ds.filter p).map g) env' ∧ env'.set i none = env0.set i none
  | [], env, h, _, _ => ⟨env, rfl, h⟩
  | d :: ds, env, h, hT, hE => by
    have hb : bindT (.name i) d (wipeE env [i]) = some (env0.set i (some (.dat d))) := by
      show (if freeB (env.set i none) i = true then some ((env.set i none).set i (some (Cell.dat d))) else none) = _
      rw [h, if_pos (free_wipe hi), List.set_set]
    have t := hT d List.mem_cons_self
    unfold lcLoop
    rw [hb]
    dsimp only
    have t' : (match T with
      | none => R.ok true (env0.set i (some (.dat d)))
      | some t => t (env0.set i (some (.dat d)))) = .ok (p d) (env0.set i (some (.dat d))) := t
    cases hp : p d with
    | false =>
      obtain ⟨env', e1, e2⟩ := lcLoop_filter hi ds (env0.set i (some (.dat d))) (by rw [List.set_set]) (fun d hd => hT d (List.mem_cons_of_mem _ hd)) (fun d hd => hE d (List.mem_cons_of_mem _ hd))
      refine ⟨env', ?_, e2⟩
      rw [List.filter_cons_of_neg (by rw [hp]; decide), ← e1]
      rw [hp] at t'
      cases T with
      | none => cases t'
      | some t0 =>
        dsimp only at t' ⊢
        rw [t']
        rfl
    | true =>
      obtain ⟨env', e1, e2⟩ := lcLoop_filter hi ds (env0.set i (some (.dat d))) (by rw [List.set_set]) (fun d hd => hT d (List.mem_cons_of_mem _ hd)) (fun d hd => hE d (List.mem_cons_of_mem _ hd))
      refine ⟨env', ?_, e2⟩
      rw [List.filter_cons_of_pos hp, List.map_cons]
      rw [hp] at t'
      have x := hE d List.mem_cons_self hp
      cases T with
      | none =>
        show ((E (env0.set i (some (.dat d)))).bind fun x env3 => (lcLoop [i] (.name i) none E ds env3).bind fun xs env4 => R.ok (x :: xs) env4) = _
        rw [x]
        show ((lcLoop [i] (.name i) none E ds (env0.set i (some (.dat d)))).bind fun xs env4 => R.ok (g d :: xs) env4) = _
        rw [e1]
        rfl
      | some t0 =>
        dsimp only at t' ⊢
        rw [t']
        show ((E (env0.set i (some (.dat d)))).bind fun x env3 => (lcLoop [i] (.name i) (some t0) E ds env3).bind fun xs env4 => R.ok (x :: xs) env4) = _
        rw [x]
        show ((lcLoop [i] (.name i) (some t0) E ds (env0.set i (some (.dat d)))).bind fun xs env4 => R.ok (g d :: xs) env4) = _
        rw [e1]
        rfl
/-- [e for x in it if t]: the environment is behind it as ahead -/
theorem ev_lc_run {G : Ctx} {i : Nat} {it : IT} {t : Option IR} {e : IR} {env env0 : Env} {ds : List D} (p : D → Bool) (g : D → D) (hit : evi G it env = .ok ds env0) (hl : ds.length ≤ BIG) (hh : hideB env0 i = true) (hi : i < env0.length)
    (hT : ∀ d, d ∈ ds → (match t with
      | none => R.ok true (env0.set i (some (.dat d)))
      | some t => truR (ev G t (env0.set i (some (.dat d))))) = .ok (p d) (env0.set i (some (.dat d))))
    (hE : ∀ d, d ∈ ds → p d = true → (ev G e (env0.set i (some (.dat d)))).take = .ok (g d) (env0.set i (some (.dat d)))) :
    ev G (.lc (.name i) it t e [i]) env = .ok (.val (.lst ((ds.filter p).map g))) env0 := by
  rw [ev_lc, hit]
  show (if ds.length ≤ BIG ∧ [i].all (hideB env0) = true ∧ (tgOwn (.name i)).all (fun j => [i].contains j) = true then _ else _) = _
  rw [if_pos ⟨hl, by simp [hh], by simp [tgOwn]⟩]
  obtain ⟨env', e1, e2⟩ := lcLoop_filter (T := tsF G t) (E := fun x => (ev G e x).take) (p := p) (g := g) hi ds env0 rfl (fun d hd => by
    have := hT d hd
    cases t with
    | none => exact this
    | some t => exact this) hE
  rw [e1]
  show R.ok (Opd.val (D.lst ((ds.filter p).map g))) (backE env0 env' [i]) = _
  rw [back_same e2]
end Mp
set_option maxHeartbeats 4000000
namespace Mp
open PySem L2
variable [TabsW] [GdW]
/-- what a comprehension makes of what is walked: left out, or taken as something -/
inductive LcR (Skip : D → Prop) (Take : D → D → Prop) : List D → List D → Prop where
  | nil : LcR Skip Take [] []
  | skip {d ds xs} : Skip d → LcR Skip Take ds xs → LcR Skip Take (d :: ds) xs
  | take {d x ds xs} : Take d x → LcR Skip Take ds xs → LcR Skip Take (d :: ds) (x :: xs)
/-- the test of a turn -/
def tstR (T : Option (Env → R Bool)) (e : Env) : R Bool := match T with
  | none => .ok true e
  | some t => t e
theorem lcLoop_cons {own : List Nat} {tg : Tgt} {T : Option (Env → R Bool)} {E : Env → R D} {d : D} {ds : List D} {env e1 : Env} (hb : bindT tg d (wipeE env own) = some e1) :
    lcLoop own tg T E (d :: ds) env = (tstR T e1).bind fun b env2 => if b then (E env2).bind fun x env3 => (lcLoop own tg T E ds env3).bind fun xs env4 => .ok (x :: xs) env4 else lcLoop own tg T E ds env2 := by
  rw [lcLoop, hb]
  dsimp only
  cases T <;> rfl
theorem lcLoop_rel {own : List Nat} {tg : Tgt} {T : Option (Env → R Bool)} {E : Env → R D} (Inv : Env → Prop) (Skip : D → Prop) (Take : D → D → Prop) : ∀ (ds : List D) (env : Env), Inv env →
    (∀ d, d ∈ ds → ∀ env, Inv env → ∃ e1, bindT tg d (wipeE env own) = some e1 ∧ ((∃ e2, tstR T e1 = .ok false e2 ∧ Inv e2 ∧ Skip d) ∨ ∃ e2 x e3, tstR T e1 = .ok true e2 ∧ E e2 = .ok x e3 ∧ Inv e3 ∧ Take d x)) →
    ∃ xs env', lcLoop own tg T E ds env = .ok xs env' ∧ Inv env' ∧ LcR Skip Take ds xs
  | [], env, h, _ => ⟨[], env, by rw [lcLoop], h, .nil⟩
  | d :: ds, env, h, hs => by
    obtain ⟨e1, hb, z⟩ := hs d List.mem_cons_self env h
    rw [lcLoop_cons hb]
    rcases z with ⟨e2, h1, h2, h3⟩ | ⟨e2, x, e3, h1, h2, h3, h4⟩
    · obtain ⟨xs, env', g1, g2, g3⟩ := lcLoop_rel Inv Skip Take ds e2 h2 fun d hd => hs d (List.mem_cons_of_mem _ hd)
      refine ⟨xs, env', ?_, g2, .skip h3 g3⟩
      rw [h1]; exact g1
    · obtain ⟨xs, env', g1, g2, g3⟩ := lcLoop_rel Inv Skip Take ds e3 h3 fun d hd => hs d (List.mem_cons_of_mem _ hd)
      refine ⟨x :: xs, env', ?_, g2, .take h4 g3⟩
      rw [h1]
      show ((E e2).bind fun x env3 => (lcLoop own tg T E ds env3).bind fun xs env4 => R.ok (x :: xs) env4) = _
      rw [h2]
      show ((lcLoop own tg T E ds e3).bind fun xs env4 => R.ok (x :: xs) env4) = _
      rw [g1]; rfl
theorem LcR.map {Skip : D → Prop} {Take : D → D → Prop} {g : D → D} (h1 : ∀ d, ¬ Skip d) (h2 : ∀ d x, Take d x → x = g d) {ds xs : List D} (h : LcR Skip Take ds xs) : xs = ds.map g := by
  induction h with
  | nil => rfl
  | skip h _ _ => exact absurd h (h1 _)
  | take h _ ih => rw [h2 _ _ h, ih]; rfl
theorem LcR.len {Skip : D → Prop} {Take : D → D → Prop} (h1 : ∀ d, ¬ Skip d) {ds xs : List D} (h : LcR Skip Take ds xs) : xs.length = ds.length := by
  induction h with
  | nil => rfl
  | skip h _ _ => exact absurd h (h1 _)
  | take h _ ih => rw [List.length_cons, List.length_cons, ih]
theorem LcR.all {Skip : D → Prop} {Take : D → D → Prop} {P : D → Prop} (h2 : ∀ d x, Take d x → P x) {ds xs : List D} (h : LcR Skip Take ds xs) : ∀ x, x ∈ xs → P x := by
  induction h with
  | nil => intro x h; cases h
  | skip _ _ ih => exact ih
  | take h _ ih =>
    intro x hx
    rcases List.mem_cons.mp hx with rfl | hx
    · exact h2 _ _ h
    · exact ih x hx
section
variable {G : Ctx}
theorem ev_lc_rel {own : List Nat} {tg : Tgt} {it : IT} {t : Option IR} {e : IR} {env env0 : Env} {ds : List D} (Inv : Env → Prop) (Skip : D → Prop) (Take : D → D → Prop)
    (hit : evi G it env = .ok ds env0) (hl : ds.length ≤ BIG) (hh : own.all (hideB env0) = true) (ho : (tgOwn tg).all (fun i => own.contains i) = true) (h0 : Inv env0)
    (hs : ∀ d, d ∈ ds → ∀ env, Inv env → ∃ e1, bindT tg d (wipeE env own) = some e1 ∧ ((∃ e2, tstR (tsF G t) e1 = .ok false e2 ∧ Inv e2 ∧ Skip d) ∨ ∃ e2 x e3, tstR (tsF G t) e1 = .ok true e2 ∧ (ev G e e2).take = .ok x e3 ∧ Inv e3 ∧ Take d x)) :
    ∃ xs env', ev G (.lc tg it t e own) env = .ok (.val (.lst xs)) (backE env0 env' own) ∧ Inv env' ∧ LcR Skip Take ds xs := by
  obtain ⟨xs, env', h1, h2, h3⟩ := lcLoop_rel (T := tsF G t) (E := fun x => (ev G e x).take) Inv Skip Take ds env0 h0 hs
  refine ⟨xs, env', ?_, h2, h3⟩
  rw [ev_lc, hit]
  show (if ds.length ≤ BIG ∧ own.all (hideB env0) = true ∧ (tgOwn tg).all (fun j => own.contains j) = true then _ else _) = _
  rw [if_pos ⟨hl, hh, ho⟩, h1]
  rfl
end
end Mp
set_option maxHeartbeats 2000000
namespace PySem
namespace ErrBadPart
open PySem.W PySem.Calls PyProof.Rows PySem.HandSPX
def iA (p1 p2 : Pos) : Arguments := { posonlyargs := [], args := [{ arg := "self", annotation := none, pos := p1 }, { arg := "part", annotation := none, pos := p2 }], vararg := none, kwonlyargs := [], kw_defaults := [], kwarg := none, defaults := [] }
def iB (q1 q2 q3 q4 : Pos) : List Stmt := [.Assign [.Attribute (.Name "self" q1) "part" q2] (.Name "part" q3) q4]
def iS : Scope := { kind := .function, names := [(PySem.Str.ofString "self", .local), (PySem.Str.ofString "part", .local)], isGenerator := false, isCoroutine := false, more := [] }
/-- what the written part says of Low, at C, and of its __init__, at fI -/
structure LowTxt (K : Frag) (mg : Str → Option Value) (C fI : Addr) : Prop where
  gC : mg "BadPart" = some (.ref C)
  cls : ∃ nm q N bs bm sn sub ab col dd k0 k1 k2 k3 k5, K.lookup C = some (excClassObj nm q C N bs bm true sn sub ab col dd k0 k1 k2 k3 k5 "ValueError.__new__") ∧ refsVE bm = true
  sa : findIn K (.ref C) "__setattr__" = some (some (.builtin "object.__setattr__"))
  ga : findIn K (.ref C) "__getattribute__" = some (some (.builtin "BaseException.__getattribute__"))
  gg : findIn K (.ref C) "__getattr__" = some none
  noN : findIn K (.ref C) "part" = some none
  iC : findIn K (.ref C) "__init__" = some (some (.ref fI))
  tC : typeIn K (.ref fI) = some (.type "function")
  kC : keepIn K (.ref C) = true
  exC : subIn K (.ref C) (.type "BaseException") = some true
  tyC : typeIn K (.ref C) = some (.type "type")
  hdC : hasDictIn K C = true
  te : exmOne K (.ref C) (.ref C) = some true
  fn : ∃ (oc : Value) (od : Option Addr) (doc pm : Value) (an : Option Addr) (cdv ct : Value) (osl : Array (Option Value)) (p1 p2 q1 q2 q3 q4 : Pos),
    K.lookup fI = some ⟨oc, od, .func (fnOf "__init__" "BadPart.__init__" (iA p1 p2) (iB q1 q2 q3 q4) iS .none .none doc pm an cdv ct), osl⟩ ∧ codeIn K cdv "BadPart.__init__" = true
theorem one_size (v : Value) : [v].length ≤ sizeLine := by
  rw [sizeLine_eq]
  exact (by decide : 1 ≤ 16777216)
theorem ldC {M : Model} {s : Shared} {name : Str} {scope : Scope} {L a : Addr} {cd : Value} {m : Str → Option Value} {x : Str} {pos : Pos} {v : Value} {Q : Value → Shared → Prop} {A : Around} {E : Value → Shared → Prop} (hn : s.heap.Ns L m) (hv : m x = some v) (h : Q v s)
    (hk : scope.kind = .function := by rfl) (hl : (envOfC name scope L a cd).kindOf x = some .local := by rfl) (hd : (x == ("__debug__" : Str)) = false := by decide) :
    wpAny M A (eval (.Name x pos) (envOfC name scope L a cd)) Q E s := wpAny_Name (wpAny_loadName_local hk hl hn hv h) hd
/-- what __init__ leaves of a fresh exception at x -/
structure InitEnd (h h' : Heap) (x C dx t1 : Addr) (v : Value) : Prop where
  keep : ∀ b o, b ≠ x → h.get? b = some o → h'.get? b = some o
  obj : h'.get? x = some { cls := .ref C, dict := some dx, data := .fields #[.ref t1, .none, .none, .none, .bool false, .none] }
  dbig : h.objs.size ≤ dx
  dne : dx ≠ x
  ns : h'.Ns1 dx (fun y => if y = "part" then some v else none)
/-- a made Low -/
structure OwnMade (h h' : Heap) (e C d : Addr) (v : Value) : Prop where
  keep : ∀ b o, h.get? b = some o → h'.get? b = some o
  new : h.objs.size ≤ e
  obj : ∃ oe vs, h'.get? e = some oe ∧ oe.cls = .ref C ∧ oe.dict = some d ∧ oe.data = .fields vs ∧ vs[1]? = some .none
  dbig : h.objs.size ≤ d
  dne : d ≠ e
  ns : h'.Ns1 d (fun y => if y = "part" then some v else none)
section
variable {prog : Program} {w : World} {A : Around} {E : Value → Shared → Prop} {R : Result → Shared → Prop} {s : Shared} {K : Frag} {mg : Str → Option Value} {C fI : Addr}
theorem low_init (T : LowTxt K mg C fI) {x t0 : Addr} {v : Value} (X : K.In s.heap) (hlim : s.heap.NoLimit) (hx : s.heap.get? x = some (excO C t0)) (hnx : K.lookup x = none) (hroom : A.depth < recursionLimit)
    (hq : ∀ h' tk dx, InitEnd s.heap h' x C dx t0 v → R (.ok (.ret .none)) { s with heap := h', toks := tk }) :
    codeAny (model prog w) A (.call (.ref fI) ⟨[.ref x, v], []⟩) R s := by
  obtain ⟨oc, od, doc, pm, an, cdv, ct, osl, p1, p2, q1, q2, q3, q4, ho, hcd⟩ := T.fn
  obtain ⟨nm, q, N, bs, bm, sn, sub, ab, col, dd, k0, k1, k2, k3, k5, hC, hbm⟩ := T.cls
  have hcl : clsIn K C = some { name := nm, bases := bs, mro := .ref C :: bm, ns := N, qualname := q, hasDict := true, slotNames := sn, subclasses := sub, abstract := ab, collection := col, hasDel := false } := by unfold clsIn; rw [hC] <;> rfl
  refine Att.call_fn (binds := [("self", .ref x), ("part", v)]) X hlim ho hcd hroom (BindsTo.of_eq (by first | rfl | with_unfolding_all rfl)) (by first | rfl | decide | with_unfolding_all rfl) (fun s₁ IC => ?_) rfl rfl rfl
  obtain ⟨h₁, tk₁, rfl⟩ := IC.toInCall.same
  have k : ∀ b o, s.heap.get? b = some o → h₁.get? b = some o := IC.toInCall.keep
  have hn := IC.toInCall.ns
  have hxL : s.heap.objs.size ≠ x := Nat.ne_of_gt (Heap.lt_size hx)
  have X₁ : K.In h₁ := X.keeps k
  have hx₁ := k _ _ hx
  -- self.by = by
  show wpAny _ _ (execs _ _) _ _ _
  refine wpAny_execs_cons (plainObj_wpAny_Assign_Attribute ?_)
  refine ldC (v := v) hn (by first | rfl | with_unfolding_all rfl | kernel_rfl) (ldC (v := .ref x) hn (by first | rfl | with_unfolding_all rfl | kernel_rfl) ?_)
  refine set_plain X₁ (ox := excO C t0) (od := none) ⟨hx₁, rfl, rfl, trivial⟩ T.sa ?_
  refine exc_osa X₁ hx₁ hcl (show refsVE (.ref C :: bm) = true from hbm) rfl T.noN (fun h₃ tk₃ dx k₃ dn dne hx₃ hn₃ => ?_)
  show wpAny _ _ (execs _ _) _ _ _
  have z : s.heap.objs.size < h₁.objs.size := hn.lt
  exact wpAny_execs_nil (hq h₃ tk₃ dx ⟨fun b o hb e => k₃ b o hb (k b o e), hx₃, Nat.le_of_lt (Nat.lt_of_lt_of_le z dn), dne, hn₃⟩)
theorem low_made (T : LowTxt K mg C fI) {v : Value} (X : K.In s.heap) (hlim : s.heap.NoLimit) (hroom : A.depth + 1 < recursionLimit)
    (hq : ∀ h' tk e d, OwnMade s.heap h' e C d v → R (.ok (.ret (.ref e))) { s with heap := h', toks := tk }) :
    codeAny (model prog w) A (.call (.ref C) ⟨[v], []⟩) R s := by
  obtain ⟨nm, q, N, bs, bm, sn, sub, ab, col, dd, k0, k1, k2, k3, k5, hC, hbm⟩ := T.cls
  obtain ⟨hp, g, dr, tk, os⟩ := s
  have k : ∀ b o, hp.get? b = some o → ((hp.push (kdv_tup [v])).push (excO C hp.objs.size)).get? b = some o := fun b o e => Heap.get?_push_of_some _ (Heap.get?_push_of_some _ e)
  have hget : ((hp.push (kdv_tup [v])).push (excO C hp.objs.size)).get? (hp.objs.size + 1) = some (excO C hp.objs.size) := by heap_get
  have hnx : K.lookup (hp.objs.size + 1) = none := by
    cases e : K.lookup (hp.objs.size + 1) with
    | none => rfl
    | some o =>
      have z : hp.get? (hp.objs.size + 1) = some o := X _ _ e
      exact absurd (Nat.lt_of_succ_lt (Heap.lt_size z)) (Nat.lt_irrefl _)
  refine call_own F.excBase_ValueError (fun X => refsVE_contains X bm hbm) (X _ _ hC) (looks_findIn X T.iC) (fun self => bind_fn X self T.tC) (one_size v) ?_
  refine low_init (s := ⟨(hp.push (kdv_tup [v])).push (excO C hp.objs.size), g, dr, tk, os⟩) T (X.keeps k) (hlim.keeps k) hget hnx ?_ fun h' tk' dx ⟨k', hx, dn, dne, hns⟩ => ?_
  · show A.depth + 1 < recursionLimit
    exact hroom
  · have old : ∀ b o, hp.get? b = some o → h'.get? b = some o := fun b o e => k' b o (Nat.ne_of_lt (Nat.lt_succ_of_lt (Heap.lt_size e))) (k b o e)
    have z : hp.objs.size + 1 + 1 ≤ dx := by
      first
        | (simpa only [Heap.size_push] using dn)
        | exact dn
        | (have q := dn; rw [Heap.size_push, Heap.size_push] at q; exact q)
    exact ⟨rfl, hq h' tk' (hp.objs.size + 1) dx ⟨old, Nat.le_succ _, ⟨_, _, hx, rfl, rfl, rfl, rfl⟩, Nat.le_trans (Nat.le_trans (Nat.le_succ _) (Nat.le_succ _)) z, dne, hns⟩⟩
end
end ErrBadPart
end PySem
namespace L2
open PySem PySem.Spec PyProof.Rows
theorem relO_low_BadPart {v : V} {v' : Value} (r : RelV v v') (f : Str) : RelO (List.lookup f [(("part" : Str), v)]) (if f = "part" then some v' else none) := by
  by_cases hw : f = "part"
  · subst hw
    rw [if_pos rfl]
    have q : List.lookup ("part" : Str) [(("part" : Str), v)] = some v := by simp [List.lookup]
    rw [q]
    exact r
  · rw [if_neg hw]
    have qw : (f == ("part" : Str)) = false := by simpa using hw
    have q2 : List.lookup f [(("part" : Str), v)] = none := by simp [List.lookup, qw]
    rw [q2]
    trivial
section
variable {X : Cx} {C fI : Addr}
/-- Low(e) -/
def tMkLow_BadPart (C : Addr) (ta : TA) : St → Hp → XK → Prop := fun σ H Q => ta σ H fun vs H1 => ∃ v, vs = [v] ∧ ∀ d, H1 d = none → Q (.ref C) (some d) (upd H1 d (.xd [(("part" : Str), v)]))
theorem pmk_low_BadPart {a : Expr} {ta : TA} {p pos : Pos} {k : Nat} (T : PySem.ErrBadPart.LowTxt X.K X.mg C fI) (hr : Room k X.A) (ha : PA X [a] ta) (hg : Gl X "BadPart" := by rfl)
    (he : starEach (a :: []) X.env = (false, eval a X.env) :: starEach [] X.env := by rfl) (hpl : (backTo pos (starEach [] X.env)).any (·.1) = false := by rfl) :
    PMk X (.Call (.Name "BadPart" p) [a] [] pos) (tMkLow_BadPart C ta) := by
  intro pins s σ H Q I h
  refine wpAny_Call_Name_kw (ld_glob I hg T.gC ?_)
  refine PySem.W.callWith_K (h₀ := X.base) I.ok.mod.kin T.kC (thn (ha.run pos pins s σ H _ I h) fun us s1 hh => ?_) he hpl
  obtain ⟨vs, H1, I1, r1, v, ev, q1⟩ := hh
  subst ev
  refine ⟨I1.kIn, ?_⟩
  cases r1 with
  | cons rv rn =>
    rename_i v' us'
    cases rn
    show wpAny _ _ (call (.ref C) [v']) _ _ _
    have hlim := I1.nolimit
    obtain ⟨hp, g, dr, tk, os⟩ := s1
    refine wpAny_call (PySem.ErrBadPart.low_made T I1.kIn hlim (by have := hr.dp; omega) fun h' tk' e d M => ?_)
    show MkP X pins σ Q (.ref e) ⟨h', g, dr, tk', os⟩
    obtain ⟨oe, fv, hoe, hc, hd, hdat, h1⟩ := M.obj
    have hns := M.ns
    obtain ⟨G', g1, g2⟩ := restrict h' fun b => decide (b ≠ e)
    have gk : ∀ b, b ≠ e → G'.get? b = h'.get? b := fun b hb => g1 b (decide_eq_true hb)
    have ge : G'.get? e = none := g2 e (by simp)
    have old : ∀ b o, hp.get? b = some o → G'.get? b = some o := fun b o q => (gk b (Nat.ne_of_lt (Nat.lt_of_lt_of_le (Heap.lt_size q) M.new))).trans (M.keep b o q)
    have ob : ObjOk X.prog X.w (upd H1 d (.xd [(("part" : Str), v)])) G' d (.xd [(("part" : Str), v)]) :=
      ⟨_, hns.at (fun o q => (gk d M.dne).trans q), fun f => relO_low_BadPart rv f⟩
    have J : Inv X pins σ (upd H1 d (.xd [(("part" : Str), v)])) ⟨G', g, dr, tk', os⟩ := I1.laid (t' := tk') old M.dbig ob
    refine ⟨e, oe, fv, ⟨G', g, dr, tk', os⟩, _, .ref C, some d, rfl, J, fun b o q => ?_, ge, hoe, ⟨hc, hd⟩, hdat, h1, ?_, rfl, I1.bare, raises_own T.exC T.tyC, q1 d (I1.hok.fresh M.dbig)⟩
    · by_cases hb : b = e
      · have q' : G'.get? b = some o := q
        rw [hb, ge] at q'; cases q'
      · exact (gk b hb).symm.trans q
    · rw [upd_ne (Ne.symm M.dne)]
      exact I1.hok.fresh M.new
/-- raise Low(e) -/
def tRaiseLow_BadPart (C : Addr) (W : WX) (ta : TA) : TS := fun _ σ H => tMkLow_BadPart C ta σ H fun cls d H' => W cls d σ H'
theorem ps_raiseLow_BadPart {a : Expr} {ta : TA} {W : WX} {p pos pos2 : Pos} {k : Nat} (hc : X.calm = true) (T : PySem.ErrBadPart.LowTxt X.K X.mg C fI) (hr : Room k X.A) (tk : Takes X W) (ha : PA X [a] ta) (hg : Gl X "BadPart" := by rfl)
    (he : starEach (a :: []) X.env = (false, eval a X.env) :: starEach [] X.env := by rfl) (hpl : (backTo pos (starEach [] X.env)).any (·.1) = false := by rfl) :
    PS X (.Raise (some (.Call (.Name "BadPart" p) [a] [] pos)) none pos2) (tRaiseLow_BadPart C W ta) := ps_raise hc tk (pmk_low_BadPart T hr ha hg he hpl)
/-- low.by, low the exception that the suite holds (at a; its class cls, its dict d) -/
def tByLow_BadPart (C : Addr) (a : Addr) (cls : Value) (d : Option Addr) (te : TE) : TE := fun σ H Q => te σ H fun x H1 => x = .ref a ∧ cls = .ref C ∧ ∃ (dd : Addr) (v : V), d = some dd ∧ H1 dd = some (.xd [(("part" : Str), v)]) ∧ Q v H1
theorem pe_byLow_BadPart {a : Addr} {oe : Obj} {cls : Value} {d : Option Addr} {pn : List (Addr × Obj)} {e : Expr} {te : TE} {pos : Pos} (T : PySem.ErrBadPart.LowTxt X.K X.mg C fI) (hz : Zc cls d oe) (hf : ∃ vs, oe.data = .fields vs) (he : PE (X.suite a ((a, oe) :: pn)) e te)
    (hb : attributeBase e "part" X.env (eval e X.env) = eval e X.env := by rfl) :
    PE (X.suite a ((a, oe) :: pn)) (.Attribute e "part" pos) (tByLow_BadPart C a cls d te) := by
  refine ⟨fun pins s σ H Q I h => ?_⟩
  refine attr_of hb (thn (he.run pins s σ H _ I h) fun u s1 hh => ?_)
  obtain ⟨x, H1, I1, rx, ex, ec, dd, v, ed, ea, q⟩ := hh
  subst ex
  obtain rfl : u = Value.ref a := rx
  subst ec
  subst ed
  obtain ⟨ha, _⟩ := I1.pin (a, oe) (List.mem_append_left _ List.mem_cons_self)
  obtain ⟨vs, hd⟩ := hf
  have hx : ObjOk X.prog X.w H1 s1.heap dd (.xd [(("part" : Str), v)]) := I1.hok dd _ ea
  obtain ⟨mA, hns, hr⟩ := hx
  obtain ⟨od, ho, hl⟩ := lookIn_ns hns
  have l : List.lookup ("part" : Str) [(("part" : Str), v)] = some v := by simp [List.lookup]
  obtain ⟨u, hu, ru⟩ := RelO.some_of (v := v) (o := mA "part") (by rw [← l]; exact hr "part")
  have J : PySem.W.InstAt s1.heap a oe C (some od) := ⟨ha, hz.1, by unfold PySem.W.notCls; rw [hd] <;> rfl, by rw [hz.2]; exact ho⟩
  exact HandSPX.exc_get I1.kIn J T.ga T.gg T.exC (PySem.W.findObj_own T.hdC T.noN rfl (by rw [hl, hu])) (handed_of ru) ⟨v, H1, I1.tok _, ru, q⟩
end
end L2
namespace PySem
namespace ErrBadNumber
open PySem.W PySem.Calls PyProof.Rows PySem.HandSPX
def iA (p1 p2 : Pos) : Arguments := { posonlyargs := [], args := [{ arg := "self", annotation := none, pos := p1 }, { arg := "number", annotation := none, pos := p2 }], vararg := none, kwonlyargs := [], kw_defaults := [], kwarg := none, defaults := [] }
def iB (q1 q2 q3 q4 : Pos) : List Stmt := [.Assign [.Attribute (.Name "self" q1) "number" q2] (.Name "number" q3) q4]
def iS : Scope := { kind := .function, names := [(PySem.Str.ofString "self", .local), (PySem.Str.ofString "number", .local)], isGenerator := false, isCoroutine := false, more := [] }
/-- what the written part says of Low, at C, and of its __init__, at fI -/
structure LowTxt (K : Frag) (mg : Str → Option Value) (C fI : Addr) : Prop where
  gC : mg "BadNumber" = some (.ref C)
  cls : ∃ nm q N bs bm sn sub ab col dd k0 k1 k2 k3 k5, K.lookup C = some (excClassObj nm q C N bs bm true sn sub ab col dd k0 k1 k2 k3 k5 "ValueError.__new__") ∧ refsVE bm = true
  sa : findIn K (.ref C) "__setattr__" = some (some (.builtin "object.__setattr__"))
  ga : findIn K (.ref C) "__getattribute__" = some (some (.builtin "BaseException.__getattribute__"))
  gg : findIn K (.ref C) "__getattr__" = some none
  noN : findIn K (.ref C) "number" = some none
  iC : findIn K (.ref C) "__init__" = some (some (.ref fI))
  tC : typeIn K (.ref fI) = some (.type "function")
  kC : keepIn K (.ref C) = true
  exC : subIn K (.ref C) (.type "BaseException") = some true
  tyC : typeIn K (.ref C) = some (.type "type")
  hdC : hasDictIn K C = true
  te : exmOne K (.ref C) (.ref C) = some true
  fn : ∃ (oc : Value) (od : Option Addr) (doc pm : Value) (an : Option Addr) (cdv ct : Value) (osl : Array (Option Value)) (p1 p2 q1 q2 q3 q4 : Pos),
    K.lookup fI = some ⟨oc, od, .func (fnOf "__init__" "BadNumber.__init__" (iA p1 p2) (iB q1 q2 q3 q4) iS .none .none doc pm an cdv ct), osl⟩ ∧ codeIn K cdv "BadNumber.__init__" = true
theorem one_size (v : Value) : [v].length ≤ sizeLine := by
  rw [sizeLine_eq]
  exact (by decide : 1 ≤ 16777216)
theorem ldC {M : Model} {s : Shared} {name : Str} {scope : Scope} {L a : Addr} {cd : Value} {m : Str → Option Value} {x : Str} {pos : Pos} {v : Value} {Q : Value → Shared → Prop} {A : Around} {E : Value → Shared → Prop} (hn : s.heap.Ns L m) (hv : m x = some v) (h : Q v s)
    (hk : scope.kind = .function := by rfl) (hl : (envOfC name scope L a cd).kindOf x = some .local := by rfl) (hd : (x == ("__debug__" : Str)) = false := by decide) :
    wpAny M A (eval (.Name x pos) (envOfC name scope L a cd)) Q E s := wpAny_Name (wpAny_loadName_local hk hl hn hv h) hd
/-- what __init__ leaves of a fresh exception at x -/
structure InitEnd (h h' : Heap) (x C dx t1 : Addr) (v : Value) : Prop where
  keep : ∀ b o, b ≠ x → h.get? b = some o → h'.get? b = some o
  obj : h'.get? x = some { cls := .ref C, dict := some dx, data := .fields #[.ref t1, .none, .none, .none, .bool false, .none] }
  dbig : h.objs.size ≤ dx
  dne : dx ≠ x
  ns : h'.Ns1 dx (fun y => if y = "number" then some v else none)
/-- a made Low -/
structure OwnMade (h h' : Heap) (e C d : Addr) (v : Value) : Prop where
  keep : ∀ b o, h.get? b = some o → h'.get? b = some o
  new : h.objs.size ≤ e
  obj : ∃ oe vs, h'.get? e = some oe ∧ oe.cls = .ref C ∧ oe.dict = some d ∧ oe.data = .fields vs ∧ vs[1]? = some .none
  dbig : h.objs.size ≤ d
  dne : d ≠ e
  ns : h'.Ns1 d (fun y => if y = "number" then some v else none)
section
variable {prog : Program} {w : World} {A : Around} {E : Value → Shared → Prop} {R : Result → Shared → Prop} {s : Shared} {K : Frag} {mg : Str → Option Value} {C fI : Addr}
theorem low_init (T : LowTxt K mg C fI) {x t0 : Addr} {v : Value} (X : K.In s.heap) (hlim : s.heap.NoLimit) (hx : s.heap.get? x = some (excO C t0)) (hnx : K.lookup x = none) (hroom : A.depth < recursionLimit)
    (hq : ∀ h' tk dx, InitEnd s.heap h' x C dx t0 v → R (.ok (.ret .none)) { s with heap := h', toks := tk }) :
    codeAny (model prog w) A (.call (.ref fI) ⟨[.ref x, v], []⟩) R s := by
  obtain ⟨oc, od, doc, pm, an, cdv, ct, osl, p1, p2, q1, q2, q3, q4, ho, hcd⟩ := T.fn
  obtain ⟨nm, q, N, bs, bm, sn, sub, ab, col, dd, k0, k1, k2, k3, k5, hC, hbm⟩ := T.cls
  have hcl : clsIn K C = some { name := nm, bases := bs, mro := .ref C :: bm, ns := N, qualname := q, hasDict := true, slotNames := sn, subclasses := sub, abstract := ab, collection := col, hasDel := false } := by unfold clsIn; rw [hC] <;> rfl
  refine Att.call_fn (binds := [("self", .ref x), ("number", v)]) X hlim ho hcd hroom (BindsTo.of_eq (by first | rfl | with_unfolding_all rfl)) (by first | rfl | decide | with_unfolding_all rfl) (fun s₁ IC => ?_) rfl rfl rfl
  obtain ⟨h₁, tk₁, rfl⟩ := IC.toInCall.same
  have k : ∀ b o, s.heap.get? b = some o → h₁.get? b = some o := IC.toInCall.keep
  have hn := IC.toInCall.ns
  have hxL : s.heap.objs.size ≠ x := Nat.ne_of_gt (Heap.lt_size hx)
  have X₁ : K.In h₁ := X.keeps k
  have hx₁ := k _ _ hx
  -- self.by = by
  show wpAny _ _ (execs _ _) _ _ _
  refine wpAny_execs_cons (plainObj_wpAny_Assign_Attribute ?_)
  refine ldC (v := v) hn (by first | rfl | with_unfolding_all rfl | kernel_rfl) (ldC (v := .ref x) hn (by first | rfl | with_unfolding_all rfl | kernel_rfl) ?_)
  refine set_plain X₁ (ox := excO C t0) (od := none) ⟨hx₁, rfl, rfl, trivial⟩ T.sa ?_
  refine exc_osa X₁ hx₁ hcl (show refsVE (.ref C :: bm) = true from hbm) rfl T.noN (fun h₃ tk₃ dx k₃ dn dne hx₃ hn₃ => ?_)
  show wpAny _ _ (execs _ _) _ _ _
  have z : s.heap.objs.size < h₁.objs.size := hn.lt
  exact wpAny_execs_nil (hq h₃ tk₃ dx ⟨fun b o hb e => k₃ b o hb (k b o e), hx₃, Nat.le_of_lt (Nat.lt_of_lt_of_le z dn), dne, hn₃⟩)
theorem low_made (T : LowTxt K mg C fI) {v : Value} (X : K.In s.heap) (hlim : s.heap.NoLimit) (hroom : A.depth + 1 < recursionLimit)
    (hq : ∀ h' tk e d, OwnMade s.heap h' e C d v → R (.ok (.ret (.ref e))) { s with heap := h', toks := tk }) :
    codeAny (model prog w) A (.call (.ref C) ⟨[v], []⟩) R s := by
  obtain ⟨nm, q, N, bs, bm, sn, sub, ab, col, dd, k0, k1, k2, k3, k5, hC, hbm⟩ := T.cls
  obtain ⟨hp, g, dr, tk, os⟩ := s
  have k : ∀ b o, hp.get? b = some o → ((hp.push (kdv_tup [v])).push (excO C hp.objs.size)).get? b = some o := fun b o e => Heap.get?_push_of_some _ (Heap.get?_push_of_some _ e)
  have hget : ((hp.push (kdv_tup [v])).push (excO C hp.objs.size)).get? (hp.objs.size + 1) = some (excO C hp.objs.size) := by heap_get
  have hnx : K.lookup (hp.objs.size + 1) = none := by
    cases e : K.lookup (hp.objs.size + 1) with
    | none => rfl
    | some o =>
      have z : hp.get? (hp.objs.size + 1) = some o := X _ _ e
      exact absurd (Nat.lt_of_succ_lt (Heap.lt_size z)) (Nat.lt_irrefl _)
  refine call_own F.excBase_ValueError (fun X => refsVE_contains X bm hbm) (X _ _ hC) (looks_findIn X T.iC) (fun self => bind_fn X self T.tC) (one_size v) ?_
  refine low_init (s := ⟨(hp.push (kdv_tup [v])).push (excO C hp.objs.size), g, dr, tk, os⟩) T (X.keeps k) (hlim.keeps k) hget hnx ?_ fun h' tk' dx ⟨k', hx, dn, dne, hns⟩ => ?_
  · show A.depth + 1 < recursionLimit
    exact hroom
  · have old : ∀ b o, hp.get? b = some o → h'.get? b = some o := fun b o e => k' b o (Nat.ne_of_lt (Nat.lt_succ_of_lt (Heap.lt_size e))) (k b o e)
    have z : hp.objs.size + 1 + 1 ≤ dx := by
      first
        | (simpa only [Heap.size_push] using dn)
        | exact dn
        | (have q := dn; rw [Heap.size_push, Heap.size_push] at q; exact q)
    exact ⟨rfl, hq h' tk' (hp.objs.size + 1) dx ⟨old, Nat.le_succ _, ⟨_, _, hx, rfl, rfl, rfl, rfl⟩, Nat.le_trans (Nat.le_trans (Nat.le_succ _) (Nat.le_succ _)) z, dne, hns⟩⟩
end
end ErrBadNumber
end PySem
namespace L2
open PySem PySem.Spec PyProof.Rows
theorem relO_low_BadNumber {v : V} {v' : Value} (r : RelV v v') (f : Str) : RelO (List.lookup f [(("number" : Str), v)]) (if f = "number" then some v' else none) := by
  by_cases hw : f = "number"
  · subst hw
    rw [if_pos rfl]
    have q : List.lookup ("number" : Str) [(("number" : Str), v)] = some v := by simp [List.lookup]
    rw [q]
    exact r
  · rw [if_neg hw]
    have qw : (f == ("number" : Str)) = false := by simpa using hw
    have q2 : List.lookup f [(("number" : Str), v)] = none := by simp [List.lookup, qw]
    rw [q2]
    trivial
section
variable {X : Cx} {C fI : Addr}
/-- Low(e) -/
def tMkLow_BadNumber (C : Addr) (ta : TA) : St → Hp → XK → Prop := fun σ H Q => ta σ H fun vs H1 => ∃ v, vs = [v] ∧ ∀ d, H1 d = none → Q (.ref C) (some d) (upd H1 d (.xd [(("number" : Str), v)]))
theorem pmk_low_BadNumber {a : Expr} {ta : TA} {p pos : Pos} {k : Nat} (T : PySem.ErrBadNumber.LowTxt X.K X.mg C fI) (hr : Room k X.A) (ha : PA X [a] ta) (hg : Gl X "BadNumber" := by rfl)
    (he : starEach (a :: []) X.env = (false, eval a X.env) :: starEach [] X.env := by rfl) (hpl : (backTo pos (starEach [] X.env)).any (·.1) = false := by rfl) :
    PMk X (.Call (.Name "BadNumber" p) [a] [] pos) (tMkLow_BadNumber C ta) := by
  intro pins s σ H Q I h
  refine wpAny_Call_Name_kw (ld_glob I hg T.gC ?_)
  refine PySem.W.callWith_K (h₀ := X.base) I.ok.mod.kin T.kC (thn (ha.run pos pins s σ H _ I h) fun us s1 hh => ?_) he hpl
  obtain ⟨vs, H1, I1, r1, v, ev, q1⟩ := hh
  subst ev
  refine ⟨I1.kIn, ?_⟩
  cases r1 with
  | cons rv rn =>
    rename_i v' us'
    cases rn
    show wpAny _ _ (call (.ref C) [v']) _ _ _
    have hlim := I1.nolimit
    obtain ⟨hp, g, dr, tk, os⟩ := s1
    refine wpAny_call (PySem.ErrBadNumber.low_made T I1.kIn hlim (by have := hr.dp; omega) fun h' tk' e d M => ?_)
    show MkP X pins σ Q (.ref e) ⟨h', g, dr, tk', os⟩
    obtain ⟨oe, fv, hoe, hc, hd, hdat, h1⟩ := M.obj
    have hns := M.ns
    obtain ⟨G', g1, g2⟩ := restrict h' fun b => decide (b ≠ e)
    have gk : ∀ b, b ≠ e → G'.get? b = h'.get? b := fun b hb => g1 b (decide_eq_true hb)
    have ge : G'.get? e = none := g2 e (by simp)
    have old : ∀ b o, hp.get? b = some o → G'.get? b = some o := fun b o q => (gk b (Nat.ne_of_lt (Nat.lt_of_lt_of_le (Heap.lt_size q) M.new))).trans (M.keep b o q)
    have ob : ObjOk X.prog X.w (upd H1 d (.xd [(("number" : Str), v)])) G' d (.xd [(("number" : Str), v)]) :=
      ⟨_, hns.at (fun o q => (gk d M.dne).trans q), fun f => relO_low_BadNumber rv f⟩
    have J : Inv X pins σ (upd H1 d (.xd [(("number" : Str), v)])) ⟨G', g, dr, tk', os⟩ := I1.laid (t' := tk') old M.dbig ob
    refine ⟨e, oe, fv, ⟨G', g, dr, tk', os⟩, _, .ref C, some d, rfl, J, fun b o q => ?_, ge, hoe, ⟨hc, hd⟩, hdat, h1, ?_, rfl, I1.bare, raises_own T.exC T.tyC, q1 d (I1.hok.fresh M.dbig)⟩
    · by_cases hb : b = e
      · have q' : G'.get? b = some o := q
        rw [hb, ge] at q'; cases q'
      · exact (gk b hb).symm.trans q
    · rw [upd_ne (Ne.symm M.dne)]
      exact I1.hok.fresh M.new
/-- raise Low(e) -/
def tRaiseLow_BadNumber (C : Addr) (W : WX) (ta : TA) : TS := fun _ σ H => tMkLow_BadNumber C ta σ H fun cls d H' => W cls d σ H'
theorem ps_raiseLow_BadNumber {a : Expr} {ta : TA} {W : WX} {p pos pos2 : Pos} {k : Nat} (hc : X.calm = true) (T : PySem.ErrBadNumber.LowTxt X.K X.mg C fI) (hr : Room k X.A) (tk : Takes X W) (ha : PA X [a] ta) (hg : Gl X "BadNumber" := by rfl)
    (he : starEach (a :: []) X.env = (false, eval a X.env) :: starEach [] X.env := by rfl) (hpl : (backTo pos (starEach [] X.env)).any (·.1) = false := by rfl) :
    PS X (.Raise (some (.Call (.Name "BadNumber" p) [a] [] pos)) none pos2) (tRaiseLow_BadNumber C W ta) := ps_raise hc tk (pmk_low_BadNumber T hr ha hg he hpl)
/-- low.by, low the exception that the suite holds (at a; its class cls, its dict d) -/
def tByLow_BadNumber (C : Addr) (a : Addr) (cls : Value) (d : Option Addr) (te : TE) : TE := fun σ H Q => te σ H fun x H1 => x = .ref a ∧ cls = .ref C ∧ ∃ (dd : Addr) (v : V), d = some dd ∧ H1 dd = some (.xd [(("number" : Str), v)]) ∧ Q v H1
theorem pe_byLow_BadNumber {a : Addr} {oe : Obj} {cls : Value} {d : Option Addr} {pn : List (Addr × Obj)} {e : Expr} {te : TE} {pos : Pos} (T : PySem.ErrBadNumber.LowTxt X.K X.mg C fI) (hz : Zc cls d oe) (hf : ∃ vs, oe.data = .fields vs) (he : PE (X.suite a ((a, oe) :: pn)) e te)
    (hb : attributeBase e "number" X.env (eval e X.env) = eval e X.env := by rfl) :
    PE (X.suite a ((a, oe) :: pn)) (.Attribute e "number" pos) (tByLow_BadNumber C a cls d te) := by
  refine ⟨fun pins s σ H Q I h => ?_⟩
  refine attr_of hb (thn (he.run pins s σ H _ I h) fun u s1 hh => ?_)
  obtain ⟨x, H1, I1, rx, ex, ec, dd, v, ed, ea, q⟩ := hh
  subst ex
  obtain rfl : u = Value.ref a := rx
  subst ec
  subst ed
  obtain ⟨ha, _⟩ := I1.pin (a, oe) (List.mem_append_left _ List.mem_cons_self)
  obtain ⟨vs, hd⟩ := hf
  have hx : ObjOk X.prog X.w H1 s1.heap dd (.xd [(("number" : Str), v)]) := I1.hok dd _ ea
  obtain ⟨mA, hns, hr⟩ := hx
  obtain ⟨od, ho, hl⟩ := lookIn_ns hns
  have l : List.lookup ("number" : Str) [(("number" : Str), v)] = some v := by simp [List.lookup]
  obtain ⟨u, hu, ru⟩ := RelO.some_of (v := v) (o := mA "number") (by rw [← l]; exact hr "number")
  have J : PySem.W.InstAt s1.heap a oe C (some od) := ⟨ha, hz.1, by unfold PySem.W.notCls; rw [hd] <;> rfl, by rw [hz.2]; exact ho⟩
  exact HandSPX.exc_get I1.kIn J T.ga T.gg T.exC (PySem.W.findObj_own T.hdC T.noN rfl (by rw [hl, hu])) (handed_of ru) ⟨v, H1, I1.tok _, ru, q⟩
end
end L2
namespace PySem
namespace ErrBadIndex
open PySem.W PySem.Calls PyProof.Rows PySem.HandSPX
def iA (p1 p2 : Pos) : Arguments := { posonlyargs := [], args := [{ arg := "self", annotation := none, pos := p1 }, { arg := "index", annotation := none, pos := p2 }], vararg := none, kwonlyargs := [], kw_defaults := [], kwarg := none, defaults := [] }
def iB (q1 q2 q3 q4 : Pos) : List Stmt := [.Assign [.Attribute (.Name "self" q1) "index" q2] (.Name "index" q3) q4]
def iS : Scope := { kind := .function, names := [(PySem.Str.ofString "self", .local), (PySem.Str.ofString "index", .local)], isGenerator := false, isCoroutine := false, more := [] }
/-- what the written part says of Low, at C, and of its __init__, at fI -/
structure LowTxt (K : Frag) (mg : Str → Option Value) (C fI : Addr) : Prop where
  gC : mg "BadIndex" = some (.ref C)
  cls : ∃ nm q N bs bm sn sub ab col dd k0 k1 k2 k3 k5, K.lookup C = some (excClassObj nm q C N bs bm true sn sub ab col dd k0 k1 k2 k3 k5 "ValueError.__new__") ∧ refsVE bm = true
  sa : findIn K (.ref C) "__setattr__" = some (some (.builtin "object.__setattr__"))
  ga : findIn K (.ref C) "__getattribute__" = some (some (.builtin "BaseException.__getattribute__"))
  gg : findIn K (.ref C) "__getattr__" = some none
  noN : findIn K (.ref C) "index" = some none
  iC : findIn K (.ref C) "__init__" = some (some (.ref fI))
  tC : typeIn K (.ref fI) = some (.type "function")
  kC : keepIn K (.ref C) = true
  exC : subIn K (.ref C) (.type "BaseException") = some true
  tyC : typeIn K (.ref C) = some (.type "type")
  hdC : hasDictIn K C = true
  te : exmOne K (.ref C) (.ref C) = some true
  fn : ∃ (oc : Value) (od : Option Addr) (doc pm : Value) (an : Option Addr) (cdv ct : Value) (osl : Array (Option Value)) (p1 p2 q1 q2 q3 q4 : Pos),
    K.lookup fI = some ⟨oc, od, .func (fnOf "__init__" "BadIndex.__init__" (iA p1 p2) (iB q1 q2 q3 q4) iS .none .none doc pm an cdv ct), osl⟩ ∧ codeIn K cdv "BadIndex.__init__" = true
end ErrBadIndex
end PySem
namespace L2
open PySem PySem.Spec PyProof.Rows
section
variable {X : Cx} {C fI : Addr}
/-- low.by, low the exception that the suite holds (at a; its class cls, its dict d) -/
def tByLow_BadIndex (C : Addr) (a : Addr) (cls : Value) (d : Option Addr) (te : TE) : TE := fun σ H Q => te σ H fun x H1 => x = .ref a ∧ cls = .ref C ∧ ∃ (dd : Addr) (v : V), d = some dd ∧ H1 dd = some (.xd [(("index" : Str), v)]) ∧ Q v H1
theorem pe_byLow_BadIndex {a : Addr} {oe : Obj} {cls : Value} {d : Option Addr} {pn : List (Addr × Obj)} {e : Expr} {te : TE} {pos : Pos} (T : PySem.ErrBadIndex.LowTxt X.K X.mg C fI) (hz : Zc cls d oe) (hf : ∃ vs, oe.data = .fields vs) (he : PE (X.suite a ((a, oe) :: pn)) e te)
    (hb : attributeBase e "index" X.env (eval e X.env) = eval e X.env := by rfl) :
    PE (X.suite a ((a, oe) :: pn)) (.Attribute e "index" pos) (tByLow_BadIndex C a cls d te) := by
  refine ⟨fun pins s σ H Q I h => ?_⟩
  refine attr_of hb (thn (he.run pins s σ H _ I h) fun u s1 hh => ?_)
  obtain ⟨x, H1, I1, rx, ex, ec, dd, v, ed, ea, q⟩ := hh
  subst ex
  obtain rfl : u = Value.ref a := rx
  subst ec
  subst ed
  obtain ⟨ha, _⟩ := I1.pin (a, oe) (List.mem_append_left _ List.mem_cons_self)
  obtain ⟨vs, hd⟩ := hf
  have hx : ObjOk X.prog X.w H1 s1.heap dd (.xd [(("index" : Str), v)]) := I1.hok dd _ ea
  obtain ⟨mA, hns, hr⟩ := hx
  obtain ⟨od, ho, hl⟩ := lookIn_ns hns
  have l : List.lookup ("index" : Str) [(("index" : Str), v)] = some v := by simp [List.lookup]
  obtain ⟨u, hu, ru⟩ := RelO.some_of (v := v) (o := mA "index") (by rw [← l]; exact hr "index")
  have J : PySem.W.InstAt s1.heap a oe C (some od) := ⟨ha, hz.1, by unfold PySem.W.notCls; rw [hd] <;> rfl, by rw [hz.2]; exact ho⟩
  exact HandSPX.exc_get I1.kIn J T.ga T.gg T.exC (PySem.W.findObj_own T.hdC T.noN rfl (by rw [hl, hu])) (handed_of ru) ⟨v, H1, I1.tok _, ru, q⟩
end
end L2
set_option maxHeartbeats 4000000
namespace Mp
open PySem PySem.Spec PyProof.Rows L2
/-- a clause: its class, and what its suite says of the error at an address, of its class and its dict -/
abbrev Cl := Value × (Addr → Value → Option Addr → TS)
/-- the slot is empty behind the suite -/
def offE (i : Nat) (D : Ends) : Ends := { nx := fun σ2 H2 => D.nx (σ2.set i none) H2, rt := D.rt, bk := fun σ2 H2 => D.bk (σ2.set i none) H2, ct := fun σ2 H2 => D.ct (σ2.set i none) H2 }
/-- the wish of a body under such clauses -/
def wCls (K : PySem.W.Frag) (i : Nat) (D : Ends) : List Cl → WX
  | [] => fun _ _ _ _ => False
  | (k, t) :: r => fun cls d σ H => ∃ b, PySem.W.exmOne K cls k = some b ∧ (b = true → ∀ ea, H ea = none → t ea cls d (offE i D) (σ.set i (some (.ref ea))) H) ∧ (b = false → wCls K i D r cls d σ H)
inductive ClsOk (X : Cx) (n : Str) : List ExceptHandler → List Cl → Prop
  | none_ : ClsOk X n [] []
  | more {x : Str} {k : Value} {t : Addr → Value → Option Addr → TS} {s0 : Stmt} {ss : List Stmt} {p1 p2 : Pos} {hs : List ExceptHandler} {l : List Cl} (nm : Names X x k)
      (su : ∀ (ea : Addr) (eo : Obj) (cls : Value) (d : Option Addr) (pn : List (Addr × Obj)), Zc cls d eo → (∃ vs, eo.data = .fields vs) → PSs (X.suite ea ((ea, eo) :: pn)) (s0 :: ss) (t ea cls d)) (rest : ClsOk X n hs l) :
      ClsOk X n (.ExceptHandler (some (.Name x p1)) (some n) (s0 :: ss) p2 :: hs) ((k, t) :: l)
section
variable {X : Cx} {n : Str} {i : Nat} {body : List Stmt} {e0 : ExceptHandler} {es : List ExceptHandler} {l : List Cl} {pos : Pos} {tb : WX → TS}
theorem ps_try_cls (st : X.stack = X.env :: X.outer) (fr : X.env.frame = some X.env.locals) (nd : X.N.Nodup) (ni : X.N[i]? = some n) (kl : X.env.kindOf n = some .local)
    (bd : ∀ (W : WX) (pn : List (Addr × Obj)) (xe : Value → Shared → Prop), Takes (X.tr pn xe) W → PassesOwn (model X.prog X.w) X.A X.env xe → PSs (X.tr pn xe) body (tb W))
    (ok : ClsOk X n (e0 :: es) l) : PS X (.Try body (e0 :: es) [] [] pos) (fun D σ H => tb (wCls X.K i D l) D σ H) := by
  refine ⟨fun pins s σ H D I h => ?_⟩
  have iok := I.ok
  have frs0 : X.A.frames = some (X.env :: X.outer) := by rw [iok.frames, st]
  have lcl : Loc X.env.scope n := .inl kl
  refine wpAny_Try_except ?_
  refine wpAny_mono ((bd (wCls X.K i D l) (X.pn ++ pins) (fun ev t1 => wpAny (model X.prog X.w) X.A (noteFrame ev X.env) (fun _ t2 => wpAny (model X.prog X.w) X.A (setFlight ev none) (fun _ t3 => wpAny (model X.prog X.w) X.A (handleBy ev X.env (e0 :: es)) (SP X pins D) X.xe t3) X.xe t2) X.xe t1)
    (fun u s' xx => ?_) PassesOwn.looking).run [] s σ H D (I.toTry _) h) (fun fl s1 hsp => ?_) (fun ev s1 he => he)
  · obtain ⟨ea, B, sI, pins', σ', H', cls, d, rfl, J', nb, up, sky, na, os, ag, w⟩ := xx
    have J : Inv X pins σ' H' sI := J'.ofTry iok
    have sky2 : Sky B (X.env :: X.outer) ea (Zc cls d) X.env.locals s'.heap := by rw [← st]; exact sky
    show wpAny (model X.prog X.w) X.A (noteFrame (.ref ea) X.env) _ _ _
    refine Sky.land Zc.steady frs0 fr sky2 fun h3 fl3 up3 => ?_
    have J3 : Inv X pins σ' H' { s' with heap := h3 } := J.landed nb fl3.1 (up.trans up3) os ag
    obtain ⟨eo3, vs3, he3, hz3, hd3⟩ := fl3.there
    have apart : ea ∉ frs (X.env :: X.outer) := fun hm => by
      obtain ⟨_, o2, q2, nf⟩ := fl3.2.2.1.mem hm
      rw [he3] at q2; cases q2
      exact nf _ hd3
    have nL : ea ≠ X.env.locals := fun z => apart (List.mem_filterMap.mpr ⟨X.env, List.mem_cons_self, by rw [fr, z]⟩)
    have nF : ea ∉ X.fs := fun hm => by
      obtain ⟨en, hen, q⟩ := List.mem_filterMap.mp hm
      exact apart (List.mem_filterMap.mpr ⟨en, List.mem_cons_of_mem _ hen, q⟩)
    have S3 := J3.suite he3 hd3 na nL nF
    have LT : PySem.W.Looks (model X.prog X.w) h3 (typeOf (.ref ea)) cls := fun A Q E t k q => wpAny_typeOf_ref (k _ _ he3) (by rw [hz3.1]; exact q)
    have go : ∀ {hs2 : List ExceptHandler} {l2 : List Cl}, ClsOk X n hs2 l2 → wCls X.K i D l2 cls d σ' H' → wpAny (model X.prog X.w) X.A (handleBy (.ref ea) X.env hs2) (SP X pins D) X.xe { s' with heap := h3 } := by
      intro hs2 l2 hk
      induction hk with
      | none_ => intro w; exact w.elim
      | @more x k t s0 ss p1 p2 hs l nm su rest ih =>
        intro w
        obtain ⟨b, hb1, yes, no⟩ := w
        refine wpAny_handleBy_cons (codeAny_handlers_test ?_) (by intro q; cases q)
        have LM := PySem.W.exm_one (M := model X.prog X.w) (J3.kIn) LT hb1
        have tst : ∀ {Q : Value → Shared → Prop} {E : Value → Shared → Prop}, Q k { s' with heap := h3 } → wpAny (model X.prog X.w) (X.A.mark (some (.ref ea))) (eval (.Name x p1) X.env) Q E { s' with heap := h3 } := fun {Q E} q => by
          obtain ⟨hg, hdbg, hm | ⟨hm, hv, hnn⟩⟩ := nm
          · exact ld_glob (X := X.suite ea ((ea, eo3) :: (X.pn ++ pins))) S3 hg hm q hdbg
          · exact ld_blt (X := X.suite ea ((ea, eo3) :: (X.pn ++ pins))) S3 hg hm hv q hnn hdbg
        refine tst (LM.here ?_)
        cases b with
        | false =>
          show wpAny _ X.A (handleBy (.ref ea) X.env hs) _ _ _
          exact ih (no rfl)
        | true =>
          refine codeAny_handlers_suite_as ?_
          refine HandSPX.lands_againZ fl3 fun h4 fl4 up4 => ?_
          have J4 : Inv X pins σ' H' { s' with heap := h4 } := J.landed nb fl4.1 ((up.trans up3).trans up4) os ag
          obtain ⟨eo4, vs4, he4, hz4, hd4⟩ := fl4.there
          have S4 := J4.suite he4 hd4 na nL nF
          refine store_ok (X := X.suite ea ((ea, eo4) :: (X.pn ++ pins))) (v := .ref ea) S4 nd ni lcl rfl (fun s5 S5 => ?_) (.inr kl)
          refine wpAny_mono ((su ea eo4 cls d (X.pn ++ pins) hz4 ⟨_, hd4⟩).run [] s5 _ H' _ S5 (yes rfl ea na)) (fun fl s6 hsp => ?_) (fun _ _ z => False.elim z)
          have fin : ∀ {σ6 : L2.St} {H6 : Hp} {Q : Shared → Prop}, Inv (X.suite ea ((ea, eo4) :: (X.pn ++ pins))) [] σ6 H6 s6 → (∀ s7, Inv X pins (σ6.set i none) H6 s7 → Q s7) →
              wpAny (model X.prog X.w) X.A (do bindName X.env n .none; unbindBehindTheSuite X.env n p2) (fun _ s7 => Q s7) X.xe s6 := fun {σ6 H6 Q} S6 hq => gone_ok (S6.unsuite iok) nd ni kl hq
          cases fl with
          | next => obtain ⟨σ6, H6, S6, q6⟩ := hsp; exact fin S6 fun s7 J7 => ⟨_, _, J7, q6⟩
          | brk => obtain ⟨σ6, H6, S6, q6⟩ := hsp; exact fin S6 fun s7 J7 => ⟨_, _, J7, q6⟩
          | cont => obtain ⟨σ6, H6, S6, q6⟩ := hsp; exact fin S6 fun s7 J7 => ⟨_, _, J7, q6⟩
          | ret u => obtain ⟨v6, σ6, H6, S6, r6, q6⟩ := hsp; exact fin S6 fun s7 J7 => ⟨_, _, _, J7, r6, q6⟩
    exact go ok w
  · cases fl with
    | next => obtain ⟨σ', H', J', q⟩ := hsp; exact wpAny_execs_nil ⟨σ', H', J'.ofTry iok, q⟩
    | brk => obtain ⟨σ', H', J', q⟩ := hsp; exact ⟨σ', H', J'.ofTry iok, q⟩
    | cont => obtain ⟨σ', H', J', q⟩ := hsp; exact ⟨σ', H', J'.ofTry iok, q⟩
    | ret u => obtain ⟨v, σ', H', J', r, q⟩ := hsp; exact ⟨v, σ', H', J'.ofTry iok, r, q⟩
end
end Mp
set_option maxHeartbeats 4000000
namespace Mp
open PySem PySem.Spec PyProof.Rows L2
variable [GdW]
/-- an empty table's object -/
abbrev tab0 : Obj := { cls := .none, data := .fields #[] }
/-- the list that is handed in -/
abbrev lst0 (vs : List Value) : Obj := { cls := .type "list", data := .seq vs.toArray }
theorem tab_lst {vs : List Value} (z : some (lst0 vs) = some tab0) : False := by
  have q : Data.seq vs.toArray _ = Data.fields #[] := congrArg Obj.data (Option.some.inj z)
  cases q
section
variable {P : Program} {w : World} {K : PySem.W.Frag} {mg mb : Str → Option Value} {CX : CXT} {k : Nat} {fa a : Addr} {ts : List (Addr × Addr)} {fd : FuncData} {x : Str} {sp : Sp} {s1 : Shared} {vs : List Value} {ns : List Int}
/-- what stands in the abstract heap at the law's start: the script, if the top has not written it, and the tables -/
structure At0 (H : Hp) (P : Program) (w : World) (K : PySem.W.Frag) (s1 : Shared) (ts : List (Addr × Addr)) (a : Addr) (ns : List Int) : Prop where
  tabs : ∀ p ∈ ts, H p.2 = some (.tbl #[])
  all : ∀ b, H b = none ∨ b ∈ ts.map (·.2) ∨ ∃ o xs, H b = some (.frz o (.lst xs))
  scr : SqL K H a (ns.map V.int)
  hok : HOk P w H s1.heap
  only : ∀ b, H b ≠ none → b = a ∨ b ∈ ts.map (·.2)
  new : H a ≠ none → K.lookup a = none
theorem law_goT (KX : K.In s1.heap) (nsg : s1.heap.Ns mainGlobals mg) (nsb : s1.heap.Ns builtinsNs mb) (bb : ∀ x : Str, x ≠ "__name__" → mb x = bootBuiltins x) (lim : s1.heap.NoLimit) (gs : s1.gens = #[])
    (tT : ∀ p ∈ ts, s1.heap.get? p.2 = some tab0) (tK : ∀ p ∈ ts, K.lookup p.2 = none) (tC : ∀ p ∈ ts, PySem.W.CodeHd s1.heap p.1 p.2)
    (bmn : ∃ (bm : Addr) (ob : Obj), mg "__builtins__" = some (.ref bm) ∧ bm ≠ builtinsNs ∧ s1.heap.get? bm = some ob ∧ ob.cls = .type "module" ∧ ob.dict = some builtinsNs ∧ ob.data = .plain)
    (ha : s1.heap.get? a = some (lst0 vs)) (room : Room k callerA)
    (F : ∀ base : Heap, K.In base → base.Ns mainGlobals mg → (∀ p ∈ ts, LamX.TabB base mg p.1 p.2) → FnOk P w K mg base CX k fa fd [x] sp) (bnd : ∀ (s : Shared) (u : Value), BindsTo s fd ⟨[u], []⟩ [(x, u)])
    (noX : ∀ H e s', CX [] H s1 (fun _ _ _ => False) e s' → False) {H : Hp} (Z : At0 H P w K s1 ts a ns) (want : sp [.ref a] H (fun v _ => v = .bl true) fun _ _ _ => False) :
    codeAny (model P w) callerA (.call (.ref fa) ⟨[.ref a], []⟩) (fun r s' => r = .ok (.ret (.bool true)) ∧ OldK s1.heap s'.heap ∧ s'.os = s1.os ∧ AllBare s'.gens) s1 := by
  have inT : ∀ b : Addr, b ∈ ts.map (·.2) → s1.heap.get? b = some tab0 := fun b hb => by
    obtain ⟨p, hp, rfl⟩ := List.mem_map.mp hb
    exact tT p hp
  have noS : ∀ {b : Addr} {o : Obj}, s1.heap.get? b = some o → (∀ l n, o.data ≠ .seq l n) → o.data ≠ .fields #[] → H b = none := fun {b o} e n1 n2 => by
    cases q : H b with
    | none => rfl
    | some u =>
      rcases Z.only b (by rw [q]; simp) with z | z
      · rw [z, ha] at e; cases e; exact (n1 _ _ rfl).elim
      · rw [inT b z] at e; cases e; exact (n2 rfl).elim
  have noD : ∀ {b : Addr} {o : Obj} {es : Array DictEntry} {ep : Nat}, s1.heap.get? b = some o → o.data = .dict es ep → H b = none := fun {b o es ep} e d =>
    noS e (fun l n z => by rw [d] at z; cases z) fun z => by rw [d] at z; cases z
  have hide : ∀ {b : Addr} {m : Str → Option Value}, s1.heap.Ns b m → (hidT s1.heap H).Ns b m := fun {b m} ⟨o, es, ep, e, d, r⟩ => ⟨o, es, ep, hidT_get e (noD e d), d, r⟩
  have KH : K.In (hidT s1.heap H) := fun b o e => hidT_get (KX b o e) (by
    cases q : H b with
    | none => rfl
    | some u =>
      rcases Z.only b (by rw [q]; simp) with z | z
      · rw [z] at e q; rw [Z.new (by rw [q]; simp)] at e; cases e
      · obtain ⟨p, hp, ep⟩ := List.mem_map.mp z
        rw [← ep, tK p hp] at e; cases e)
  have MH : L2.Mod K mg (hidT s1.heap H) := ⟨KH, hide nsg, ⟨mb, hide nsb, bb⟩, let ⟨mc, h1, h2⟩ := lim; ⟨mc, hide h1, h2⟩⟩
  have TB : ∀ p ∈ ts, LamX.TabB (hidT s1.heap H) mg p.1 p.2 := fun p hp => by
    refine ⟨?_, ?_, fun z => ?_⟩
    · obtain ⟨o, us, file, tf, flags, tg, inF, text, tt, e1, r1, r2, r3, r4, r5, r6, r7, r8, hne⟩ := tC p hp
      exact ⟨o, us, file, tf, flags, tg, inF, text, tt, hidT_get e1 (noS e1 (fun l n z => by rw [r2] at z; cases z) fun z => by rw [r2] at z; cases z; simp at r3), r1, r2, r3, r4, r5, r6, r7, r8, hne⟩
    · obtain ⟨bm, ob, b1, b2, b3, b4, b5, b6⟩ := bmn
      have nG : bm ≠ mainGlobals := fun q => by
        obtain ⟨o, es, ep, e, hd, _⟩ := nsg
        rw [q, e] at b3; cases b3; rw [hd] at b6; cases b6
      have nP : bm ≠ p.2 := fun q => by rw [q, tT p hp] at b3; cases b3; cases b6
      exact ⟨bm, ob, b1, b2, nG, nP, hidT_get b3 (noS b3 (fun l n z => by rw [b6] at z; cases z) fun z => by rw [b6] at z; cases z), b4, b5, b6⟩
    · obtain ⟨o, es, ep, e, hd, _⟩ := nsg
      rw [z, tT p hp] at e; cases e; cases hd
  have e0 : Env0 P w K mg (hidT s1.heap H) callerA [] s1 H := ⟨rfl, MH, fun b o e => of_hidT e, Nat.le_of_eq (hidT_size _ _), trivial, (fun b hb => absurd hb (by simp [frs])), Z.hok, .of_eq gs⟩
  refine codeAny_mono ((F _ KH (hide nsg) TB).go callerA [] s1 H ⟨[.ref a], []⟩ [.ref a] [.ref a] _ _ room e0 (bnd s1 (.ref a)) (.cons rfl .nil) want) fun r s' h => ?_
  match r, h with
  | .error e, h => exact (noX H e s' h).elim
  | .ok .next, h => exact h.elim
  | .ok .brk, h => exact h.elim
  | .ok .cont, h => exact h.elim
  | .ok (.ret u), ⟨v, H', os, bare, un, hok2, r2, q⟩ =>
    have q2 : v = .bl true := q
    subst q2
    obtain rfl : u = Value.bool true := r2
    have kept : ∀ b o, b ∉ ts.map (·.2) → s1.heap.get? b = some o → s'.heap.get? b = some o := fun b o nb e => by
      cases q : H b with
      | none => exact un.keep b o e q (by intro z; cases z) (by simp)
      | some u =>
        rcases Z.all b with z | z | ⟨ob, xs, z⟩
        · rw [q] at z; cases z
        · exact absurd z nb
        · obtain ⟨e1, _⟩ := Z.hok b _ z
          obtain ⟨e2, _⟩ := hok2 b _ (un.frzs b ob _ z)
          rw [e] at e1; cases e1
          exact e2
    have grown : ∀ p ∈ ts, ∃ more : Array Value, s'.heap.get? p.2 = some { cls := .none, data := .fields more } := fun p hp => by
      obtain ⟨more, z⟩ := un.tbls p.2 #[] (Z.tabs p hp)
      exact ⟨_, hok2 p.2 _ z⟩
    refine ⟨rfl, ⟨fun b o e => ?_, fun b o e => ?_⟩, os, bare⟩
    · by_cases hb : b ∈ ts.map (·.2)
      · obtain ⟨p, hp, rfl⟩ := List.mem_map.mp hb
        obtain ⟨more, hm⟩ := grown p hp
        rw [tT p hp] at e; cases e
        exact .inr (.inl ⟨((tC p hp).tab (tT p hp)).isCodeTable, rfl, #[], more, rfl, by rw [Array.empty_append]; exact hm⟩)
      · exact .inl (kept b o hb e)
    · by_cases hb : b ∈ ts.map (·.2)
      · obtain ⟨p, hp, rfl⟩ := List.mem_map.mp hb
        obtain ⟨more, hm⟩ := grown p hp
        exact ⟨_, hm⟩
      · exact ⟨o, kept b o hb e⟩
/-- such a heap there is -/
theorem at0_is (KX : K.In s1.heap) (tT : ∀ p ∈ ts, s1.heap.get? p.2 = some tab0) (ha : s1.heap.get? a = some (lst0 vs)) (hi : IntsAre vs ns) (hl : ns.length ≤ sizeLine) : ∃ H : Hp, At0 H P w K s1 ts a ns := by
  have rv := vals_ints hi
  have lv := hi.length
  have inT : ∀ b : Addr, b ∈ ts.map (·.2) → s1.heap.get? b = some tab0 := fun b hb => by
    obtain ⟨p, hp, rfl⟩ := List.mem_map.mp hb
    exact tT p hp
  have aT : a ∉ ts.map (·.2) := fun z => tab_lst (ha.symm.trans (inT a z))
  have mem : ∀ p ∈ ts, p.2 ∈ ts.map (·.2) := fun p hp => List.mem_map.mpr ⟨p, hp, rfl⟩
  cases hk : K.lookup a with
  | some o =>
    have e := KX a o hk
    rw [ha] at e; cases e
    refine ⟨fun b => if b ∈ ts.map (·.2) then some (.tbl #[]) else none, fun p hp => if_pos (mem p hp), fun b => ?_, .inr ⟨_, vs.toArray, _, hk, rfl, rfl, rfl, by rw [List.size_toArray, lv]; exact hl, by simpa using rv⟩, fun b u z => ?_, fun b z => ?_, fun z => absurd (if_neg aT) z⟩
    · by_cases hb : b ∈ ts.map (·.2)
      · exact .inr (.inl hb)
      · exact .inl (if_neg hb)
    · by_cases hb : b ∈ ts.map (·.2)
      · have z2 := (if_pos hb).symm.trans z; cases z2; exact inT b hb
      · have z2 := (if_neg hb).symm.trans z; cases z2
    · by_cases hb : b ∈ ts.map (·.2)
      · exact .inr hb
      · exact absurd (if_neg hb) z
  | none =>
    refine ⟨fun b => if b = a then some (.frz (lst0 vs) (.lst (ns.map V.int))) else if b ∈ ts.map (·.2) then some (.tbl #[]) else none, fun p hp => (if_neg (show ¬ p.2 = a from fun z => aT (by rw [← z]; exact mem p hp))).trans (if_pos (mem p hp)), fun b => ?_, .inl (.inr ⟨lst0 vs, if_pos rfl⟩), fun b u z => ?_, fun b z => ?_, fun _ => hk⟩
    · by_cases hb : b = a
      · exact .inr (.inr ⟨_, _, if_pos hb⟩)
      · by_cases hb2 : b ∈ ts.map (·.2)
        · exact .inr (.inl hb2)
        · exact .inl ((if_neg hb).trans (if_neg hb2))
    · by_cases hb : b = a
      · have z2 := (if_pos hb).symm.trans z; cases z2; rw [hb]
        exact ⟨ha, by rw [List.length_map]; exact hl, vs, _, rv, ha⟩
      · have z1 := (if_neg hb).symm.trans z
        by_cases hb2 : b ∈ ts.map (·.2)
        · have z2 := (if_pos hb2).symm.trans z1; cases z2; exact inT b hb2
        · have z2 := (if_neg hb2).symm.trans z1; cases z2
    · by_cases hb : b = a
      · exact .inl hb
      · by_cases hb2 : b ∈ ts.map (·.2)
        · exact .inr hb2
        · exact absurd ((if_neg hb).trans (if_neg hb2)) z
end
/-- what is known of the law's promise where the call starts: the tables of the defs that make lambdas, and the promise over them -/
def LawG (l : PySem.W.OpenLaw) (w : World) (K : PySem.W.Frag) (CX : CXT) (k n : Nat) (x : Str) (mg : Str → Option Value) (fa : Addr) (h : Heap) : Prop :=
  ∃ (fd : FuncData) (ts : List (Addr × Addr)) (sp : Sp), (∀ p ∈ ts, h.get? p.2 = some tab0) ∧ (∀ p ∈ ts, K.lookup p.2 = none) ∧ (∀ p ∈ ts, PySem.W.CodeHd h p.1 p.2) ∧ (∀ (s : Shared) (u : Value), BindsTo s fd ⟨[u], []⟩ [(x, u)]) ∧
    (∀ (H : Hp) (a : Addr) (ns : List Int), ns.length ≤ n → (∀ p ∈ ts, H p.2 = some (.tbl #[])) → SqL K H a (ns.map V.int) → sp [.ref a] H (fun v _ => v = .bl true) fun _ _ _ => False) ∧
    ∀ base : Heap, K.In base → base.Ns mainGlobals mg → (∀ p ∈ ts, LamX.TabB base mg p.1 p.2) → FnOk l.prog w K mg base CX k fa fd [x] sp
theorem walkG {l : PySem.W.OpenLaw} {n k : Nat} {q : Program} {loose : List Str} {XP : (Str → Option Value) → Heap → Prop} {YP : World → Heap → Prop} {d : DefRec} {K : Params → PySem.W.Frag} {x : Str}
    (hn : l.most = some n) (hn2 : n ≤ sizeLine) (hdf : d.params.defaults = []) (hr : Room k callerA) (hY : ∀ (w : World) (h : Heap), YP w h → (K w.params).In h)
    (F : ∀ (w : World) (mg mb : Str → Option Value) (fa : Addr) (h : Heap) (s₀ : Shared), PySem.W.Ground q loose [] XP w s₀ mg mb h → YP w h → (K w.params).In h → h.Ns mainGlobals mg → mg d.name = some (.ref fa) → LawG l w (K w.params) (L2.CX l.prog w) k n x mg fa h) :
    PySem.W.WalkO q loose XP YP l.row.toRowW d [] (fun f vs => PySem.call f vs) := by
  refine _root_.Att.attach_callB hn hdf fun w s₀ s₁ mg mb fa o pm cd doc a vs ns G Y ho hd hcd hmg hobj hints hlen hbits hg => ?_
  have KX := hY w _ Y
  obtain ⟨fd, ts, sp, tT, tK, tC, bnd, want, ok⟩ := F w mg mb fa _ s₀ G Y KX G.T.g hmg
  obtain ⟨H, Z⟩ := at0_is (P := l.prog) (w := w) (K := K w.params) (ts := ts) KX tT hobj hints (Nat.le_trans hlen hn2)
  exact law_goT KX G.T.g G.T.b G.T.builtins G.T.nolimit hg tT tK tC G.T.bmain hobj hr ok bnd (fun _ _ _ ⟨_, _, _, _, _, _, _, _, _, _, _, _, z⟩ => z) Z (want H a ns hlen Z.tabs Z.scr)
/-- a def's code object and its table, empty at the start -/
theorem tab_at {q : Program} {loose : List Str} {XP : (Str → Option Value) → Heap → Prop} {w : World} {s₀ : Shared} {mg mb : Str → Option Value} {h : Heap} {K : PySem.W.Frag} {d : DefRec} {x : Str} {c P : Addr} (G : PySem.W.Ground q loose [] XP w s₀ mg mb h) (X : K.In h) (hr : (recsOf q).find? (fun e => e.name == x) = some d) (ht : PySem.W.tabIn K x = some (c, P)) :
    PySem.W.CodeHd h c P ∧ h.get? P = some tab0 := PySem.W.tab_of G.T X hr ht
end Mp
set_option maxHeartbeats 4000000
namespace Mp
open PySem PySem.Spec PyProof.Rows L2
/-- repr(x): x's data and how it is shown -/
def rRepr (K : PySem.W.Frag) (A : Around) : List V → Hp → VK → Prop := fun xs H Q => ∃ (x : V) (p : PyData), xs = [x] ∧ Dp K H x p ∧ p.showable = true ∧ p.hasDict = false ∧ (∀ i, p = .int i → i.natAbs.log2 < 1920) ∧ p.shown.length ≤ sizeLine ∧ A.units + (p.depth + 1) < cLine ∧ Q (.str p.shown) H
section
variable {X : Cx}
theorem call_repr (hg : X.A.guards = some []) : CallR X (.builtin "repr") (rRepr X.K X.A) := by
  intro pins s σ H xs us Q I r h
  obtain ⟨x, p, rfl, dp, hs, hd, hi, hz, hu, q⟩ := h
  obtain ⟨u, rfl, ru⟩ := vals1 r
  obtain ⟨as, rd⟩ := Dp.reads I p x u dp ru
  have viaR : ∀ a : Addr, u = .ref a → wpAny (model X.prog X.w) X.A (call (.builtin "repr") [u]) (EP X pins σ Q) X.xe s := fun a e => by
    subst e
    exact repr_of_reads' rd hs (fun z => by rw [hd] at z; cases z) hg hu (fun _ _ e => e) (fun h' v tk hk => ⟨.str p.shown, H, I.kept hk, ⟨v, rfl⟩, q⟩) hz
  cases dp with
  | non => cases ru; exact PySem.P.repr_of_none ⟨.str _, H, I.tok _, ⟨_, rfl⟩, q⟩
  | bl b => cases ru; exact PySem.P.repr_of_bool ⟨.str _, H, I.tok _, ⟨_, by cases b <;> rfl⟩, q⟩
  | int i =>
    obtain ⟨t, rfl⟩ := ru
    exact PySem.P.repr_of_int (hi i rfl) ⟨.str _, H, I.tok _, ⟨_, rfl⟩, q⟩
  | str a =>
    obtain ⟨t, rfl⟩ := ru
    exact PySem.P.repr_of_str ⟨.str _, H, I.tok _, ⟨_, rfl⟩, q⟩ hz
  | _ => exact viaR _ ru
end
end Mp
set_option maxHeartbeats 4000000
namespace Mp
open PySem PySem.Spec PyProof.Rows L2
variable [TabsW] [GdW]
theorem showB_of {p : PyData} (h : showB p = true) : p.showable = true ∧ p.hasDict = false ∧ (∀ i, p = .int i → i.natAbs.log2 < 1920) ∧ p.shown.length ≤ BIG ∧ p.depth ≤ 60 := by
  unfold showB at h
  simp only [Bool.and_eq_true, Bool.not_eq_true', decide_eq_true_eq] at h
  obtain ⟨⟨⟨⟨h1, h2⟩, h3⟩, h4⟩, h5⟩ := h
  refine ⟨h1, h2, fun i e => ?_, h4, h5⟩
  subst e
  simpa using h3
theorem dp_top {K : PySem.W.Frag} {H : Hp} {M : AS} {d : D} {x : V} {p : PyData} (r : RepT K H M d x) (t : toPy d = some p) : Dp K H x p := dp_of d x p r.loose t
/-- repr of data -/
theorem s_repr {k : Nat} {K : PySem.W.Frag} {A : Around} (hr : L2.Room k A) : CaS K (rRepr K A) (bltD .repr) := by
  intro M xs H ps z Q r hM e kk
  obtain ⟨d, x, rfl, rfl, rd⟩ := one_of r e rfl (fun a b c => by cases a <;> rfl)
  have e : reprD d = some z := e
  unfold reprD at e
  cases h : toPy d with
  | none => rw [h] at e; cases e
  | some p =>
    rw [h] at e
    dsimp only at e
    by_cases hs : showB p = true
    · rw [if_pos hs] at e; cases e
      obtain ⟨h1, h2, h3, h4, h5⟩ := showB_of hs
      have hz : sizeLine = 16777216 := sizeLine_eq
      have hu := hr.units
      exact ⟨x, p, rfl, dp_top rd h, h1, h2, h3, by unfold BIG at h4; omega, by omega, kk _ _ Stp.refl (by unfold Rep; rfl)⟩
    · rw [if_neg hs] at e; cases e
def tellV (K : PySem.W.Frag) (H : Hp) (rep : Bool) (v w : V) : Prop := match rep with
  | true => ∃ p, Dp K H v p ∧ showB p = true ∧ w = .str p.shown
  | false => w = v
/-- the error is c's, and what is told of it -/
def saidC (K : PySem.W.Frag) (c : HC) (cls : Value) (d : Option Addr) (H : Hp) (Q : VK) : Prop :=
  cls = .ref (clsAt K c.C) ∧ ∃ (dd : Addr) (v w : V), d = some dd ∧ H dd = some (.xd [(c.f, v)]) ∧ tellV K H c.rep v w ∧ ∀ l, H l = none → Q (.ref l) (upd H l (.lst [.str c.lab, w]))
def wHC (K : PySem.W.Frag) : List HC → Value → Option Addr → Hp → VK → Prop
  | [], _, _, _, _ => False
  | c :: cs, cls, d, H, Q => ∃ b, PySem.W.exmOne K cls (.ref (clsAt K c.C)) = some b ∧ (b = true → saidC K c cls d H Q) ∧ (b = false → wHC K cs cls d H Q)
def THeard (K : PySem.W.Frag) (cs : List HC) : (XK → Hp → VK → Prop) → Hp → VK → Prop := fun tl H Q => tl (fun cls d H' => wHC K cs cls d H' Q) H (fun _ H' => Q .non H')
/-- what a clause's suite says -/
def clT (K : PySem.W.Frag) (i : Nat) (c : HC) : Addr → Value → Option Addr → TS := fun ea cls d D σ H => (i < σ.length → σ[i]? = some (some (.ref ea))) ∧ saidC K c cls d H D.rt
def clOf (K : PySem.W.Frag) (i : Nat) (c : HC) : Cl := (.ref (clsAt K c.C), clT K i c)
theorem wHC_cls {K : PySem.W.Frag} {i : Nat} {D : Ends} {cls : Value} {d : Option Addr} {σ : L2.St} {H : Hp} : ∀ {cs : List HC}, wHC K cs cls d H D.rt → wCls K i D (cs.map (clOf K i)) cls d σ H
  | [], h => h.elim
  | c :: cs, h => by
    obtain ⟨b, h1, h2, h3⟩ := h
    exact ⟨b, h1, fun hb ea _ => ⟨fun hi => List.getElem?_set_self (by simpa using hi), h2 hb⟩, fun hb => wHC_cls (h3 hb)⟩
/-- e.f, e the error of a suite -/
def tBy (C : Addr) (f : Str) (a : Addr) (cls : Value) (d : Option Addr) (te : TE) : TE := fun σ H Q => te σ H fun x H1 => x = .ref a ∧ cls = .ref C ∧ ∃ (dd : Addr) (v : V), d = some dd ∧ H1 dd = some (.xd [(f, v)]) ∧ Q v H1
section
variable {Y : Cx} {c : HC} {i : Nat} {n : Str} {ea : Addr} {eo : Obj} {cls : Value} {d : Option Addr} {pn : List (Addr × Obj)} {p1 p2 p3 p4 p5 p6 p7 : Pos} {j : Nat}
theorem cl_rep {k : Nat} (hrep : c.rep = true) (by_ : PE (Y.suite ea ((ea, eo) :: pn)) (.Attribute (.Name n p1) c.f p2) (tBy (clsAt Y.K c.C) c.f ea cls d (tVar i))) (hi : i < Y.N.length) (hgd : Y.A.guards = some []) (hu : Y.A.units + 64 < cLine) (hg : Gl Y "repr") (hm : Y.mg "repr" = none) :
    PSs (Y.suite ea ((ea, eo) :: pn)) [.Return (some (.List [.Constant (.str c.lab) j p3, .Call (.Name "repr" p4) [.Attribute (.Name n p1) c.f p2] [] p5] p6)) p7] (clT Y.K i c ea cls d) := by
  have cr : CallR (Y.suite ea ((ea, eo) :: pn)) (.builtin "repr") (rRepr Y.K Y.A) := call_repr (X := Y.suite ea ((ea, eo) :: pn)) hgd
  have pr := pss_one (ps_ret (pos := p7) (pe_lst (pos := p6) (pa_cons (pe_str (X := Y.suite ea ((ea, eo) :: pn)) (x := c.lab) (j := j) (pos := p3)) (pa_cons (pe_callB (p := p4) (pos := p5) cr hg hm rfl (pa_cons by_ pa_nil)) pa_nil))))
  refine ⟨fun pins s σ H D I h => pr.run pins s σ H D I ?_⟩
  obtain ⟨h0, h1, dd, v, w, h2, h3, h4, h5⟩ := h
  have hl : σ.length = Y.N.length := I.len
  rw [hrep] at h4
  obtain ⟨p, q1, q2, rfl⟩ := h4
  obtain ⟨g1, g2, g3, g4, g5⟩ := showB_of q2
  have hz : sizeLine = 16777216 := sizeLine_eq
  refine ⟨.ref ea, h0 (by rw [hl]; exact hi), rfl, h1, dd, v, h2, h3, v, p, rfl, q1, g1, g2, g3, by unfold BIG at g4; omega, ?_, ?_, ?_⟩
  · have : (Y.suite ea ((ea, eo) :: pn)).A.units = Y.A.units := rfl
    omega
  · show 2 ≤ sizeLine
    omega
  · exact h5
end
end Mp
set_option maxHeartbeats 4000000
namespace Mp
open PySem PySem.Spec PyProof.Rows L2
variable [TabsW] [GdW]
section
variable {X : Cx}
/-- try: call() / except .. as e: return .. / return None -/
theorem heard_gives {cs : List HC} {Ng : List Str} {x a e q : Str} {sg : Scope} {g : Addr} {cdg : Value} {j : Nat} {i : Nat} {e0 : ExceptHandler} {es : List ExceptHandler} {p1 p2 p3 p5 p6 p8 : Pos}
    (nd : Ng.Nodup) (ni : Ng[i]? = some e) (kl : sg.names.lookup e = some .local) (h0 : ∀ f : Addr, (L2.start Ng [V.ref f])[0]? = some (some (V.ref f)))
    (ok : ∀ (s : Shared) (H : Hp), ClsOk (cxOf C8.CX0 X.prog X.w X.K X.mg X.base Ng x sg g cdg X.A X.stack s H C8.E0).nox e (e0 :: es) (cs.map (clOf X.K i))) :
    LamX.GivesTo X Ng x sg g cdg [.Try [.Expr (.Call (.Name a p1) [] [] p2) p3] (e0 :: es) [] [] p8, .Return (some (.Constant .none j p5)) p6] a q (THeard X.K cs) := by
  intro f c' s H Q tl act hc h
  have st := ps_try_cls (X := (cxOf C8.CX0 X.prog X.w X.K X.mg X.base Ng x sg g cdg X.A X.stack s H C8.E0).nox) (n := e) (i := i) (pos := p8) (l := cs.map (clOf X.K i)) (body := [.Expr (.Call (.Name a p1) [] [] p2) p3])
      (tb := fun W D σ H => ∃ Ech : XK, (∀ cls d σ' H', Ech cls d H' → W cls d σ' H') ∧ σ[0]? = some (some (.ref f)) ∧ H c' = some (LamX.CodeO c' q) ∧ tl Ech H fun _ H' => D.nx σ H')
      rfl rfl nd ni kl (fun W pn xe tk _ => by
        refine ⟨fun pins s' σ H' D I h' => ?_⟩
        obtain ⟨Ech, hW, h1, h2, h3⟩ := h'
        have hp := act W pn xe Ech p1 p2 tk hW
        exact (pss_one (ps_expr (pos := p3) hp)).run pins s' σ H' D I ⟨h1, h2, h3⟩) (ok s H)
  refine ⟨_, pss_cons st (pss_one (ps_ret (pos := p6) (pe_non (j := j) (pos := p5)))), ?_⟩
  refine ⟨fun cls d H' => wHC X.K cs cls d H' Q, fun cls d σ' H' hw => wHC_cls hw, h0 f, hc, ?_⟩
  exact h
end
structure ClsFacts (K : PySem.W.Frag) (cs : List HC) : Prop where
  ex : ∀ c ∈ cs, ∀ c' ∈ cs, PySem.W.exmOne K (.ref (clsAt K c.C)) (.ref (clsAt K c'.C)) = some (decide (c.C = c'.C))
theorem hear_mem {C f : Str} {d x : D} : ∀ {cs : List HC}, hear cs C f d = some x → ∃ c ∈ cs, C = c.C ∧ f = c.f
  | [], h => by cases h
  | c :: cs, h => by
    unfold hear at h
    by_cases h1 : C = c.C
    · rw [if_pos h1] at h
      by_cases h2 : f = c.f
      · exact ⟨c, List.mem_cons_self, h1, h2⟩
      · rw [if_neg h2] at h; cases h
    · rw [if_neg h1] at h
      obtain ⟨c', m, z⟩ := hear_mem h
      exact ⟨c', List.mem_cons_of_mem _ m, z⟩
theorem hear_said {K : PySem.W.Frag} {all : List HC} (F : ClsFacts K all) {C f : Str} {d x : D} {dd : Addr} {v : V} {H : Hp} {M : AS} {Q : VK} {c0 : HC} (m0 : c0 ∈ all) (e0 : C = c0.C) (hd : H dd = some (.xd [(f, v)])) (rd : Rep K H M d v)
    (k : ∀ l xs ds, x = .lst ds → H l = none → RepL K H M ds xs → Q (.ref l) (upd H l (.lst xs))) : ∀ {cs : List HC}, (∀ c ∈ cs, c ∈ all) → hear cs C f d = some x → wHC K cs (.ref (clsAt K C)) (some dd) H Q
  | [], _, h => by cases h
  | c :: cs, hm, h => by
    have hex := F.ex c0 m0 c (hm c List.mem_cons_self)
    rw [← e0] at hex
    refine ⟨_, hex, fun hb => ?_, fun hb => ?_⟩
    · have hC : C = c.C := of_decide_eq_true hb
      unfold hear at h
      rw [if_pos hC] at h
      by_cases hf : f = c.f
      · rw [if_pos hf] at h
        refine ⟨by rw [hC], dd, v, ?_⟩
        cases hr : c.rep with
        | false =>
          rw [hr] at h
          cases h
          exact ⟨v, rfl, by rw [← hf]; exact hd, rfl, fun l hl => k l _ _ rfl hl (RepL.cons (by unfold Rep; rfl) (RepL.cons rd RepL.nil))⟩
        | true =>
          rw [hr, if_pos rfl] at h
          unfold reprD at h
          cases ht : toPy d with
          | none => rw [ht] at h; cases h
          | some p =>
            rw [ht] at h
            dsimp only at h
            by_cases hs : showB p = true
            · rw [if_pos hs] at h
              cases h
              exact ⟨.str p.shown, rfl, by rw [← hf]; exact hd, ⟨p, dp_of d v p rd ht, hs, rfl⟩, fun l hl => k l _ _ rfl hl (RepL.cons (by unfold Rep; rfl) (RepL.cons (by unfold Rep; rfl) RepL.nil))⟩
            · rw [if_neg hs] at h; cases h
      · rw [if_neg hf] at h; cases h
    · have hC : ¬ C = c.C := of_decide_eq_false hb
      unfold hear at h
      rw [if_neg hC] at h
      exact hear_said F m0 e0 hd rd k (fun c' h' => hm c' (List.mem_cons_of_mem _ h')) h
theorem stp_ext {H H1 : Hp} (e : LamX.ExtN H H1) (t : LamX.Tabs TabsW.T H1) : Stp NoA H H1 := ⟨fun a o h _ n => e a o h n, fun a ⟨o, h, n⟩ => ⟨o, e a o h n, n⟩, fun P q m _ => t (P, q) m⟩
theorem heard_read {K : PySem.W.Frag} {G : Ctx} {W : WX} {cs : List HC} (F : ClsFacts K cs) {i : IR} {σ : L2.St} {H : Hp} {Q : VK} (q : tI G W K (.heard cs i) σ H Q) :
    LamX.tLam TabsW.T (THeard K cs) (fun E => tI G (fun cls d _ H' => E cls d H') K i) σ H Q := by
  obtain ⟨H0, M0, A, env, E, q⟩ := q
  rw [ev] at q
  refine ⟨fun p hp => E.tb p.1 p.2 hp, fun H1 e1 t1 => ?_⟩
  have s0 : Stp NoA H H1 := stp_ext e1 t1
  have E1 := E.keep s0
  refine ⟨H0, M0, A, env, E1, ?_⟩
  cases h : ev G i env with
  | bad => rw [h] at q; exact q.elim
  | ok o e2 =>
    rw [h] at q
    intro H' s u E' v hv
    exact q H' (s0.no.trans s) u E' .non (by unfold OpdR Rep; rfl)
  | exc C f d e2 =>
    rw [h] at q
    dsimp only at q
    cases hx : hear cs C f d with
    | none => rw [hx] at q; exact q.elim
    | some x =>
      rw [hx] at q
      intro dd v H' s u E' hd rd
      obtain ⟨c0, m0, e0, _⟩ := hear_mem hx
      refine hear_said F m0 e0 hd rd (fun l xs ds ex hl rr => ?_) (fun _ z => z) hx
      subst ex
      exact q _ ((s0.no.trans s).trans (Stp.new hl)) u (E'.new hl) (.ref l) (rep_new hl (E'.fresh hl).1 rr)
section
variable {X : Cx} {G : Ctx} {W : WX}
/-- heard(lambda: body) -/
theorem e_heard {cs : List HC} {i : IR} {x a : Str} {g c P : Addr} {k : Nat} {pg : Arguments} {bg : List Stmt} {sg : Scope} {dV kV doc pm cdv ct oc : Value} {an od : Option Addr} {osl : Array (Option Value)} {Ng : List Str}
    {params : Arguments} {body : Expr} {scope : Scope} {p lpos pos : Pos} (F : ClsFacts X.K cs) (hg : Gl X x) (hm : X.mg x = some (.ref g)) (hk : PySem.W.keepIn X.K (.ref g) = true)
    (lk : X.K.lookup g = some ⟨oc, od, .func (PySem.W.fnOf x x pg bg sg dV kV doc pm an cdv ct), osl⟩) (hcg : PySem.W.codeIn X.K cdv x = true) (hb : L2.Binds X.K (PySem.W.fnOf x x pg bg sg dV kV doc pm an cdv ct) [a] []) (Sg : FnScope Ng [a] sg) (hNg : Ng[0]? = some a) (hva : Vis sg a)
    (hG : LamX.GivesTo X Ng x sg g cdv bg a (X.env.qual ++ "<lambda>") (THeard X.K cs))
    (TB : LamX.TabB X.base X.mg c P) (hcode : X.env.code = .ref c) (hmT : (P, X.env.qual ++ "<lambda>") ∈ TabsW.T) (hu : ∀ p ∈ TabsW.T, p.1 = P → p.2 = X.env.qual ++ "<lambda>") (hr : L2.Room (k + 2) X.A) (L : LamX.LamS X.env.scope scope) (hdef : defaultsOf params X.env = ([], []))
    (hbind : ∀ (q : Str) (cl : List (Str × Addr)) (pm cv ctv : Value), bindArgs (PySem.W.kla_fn "<lambda>" q params body scope cl pm cv ctv) ⟨[], []⟩ = pure [])
    (hbody : ∀ (A : Around) (outer : List PySem.Env) (s : Shared) (H : Hp) (E : XK) (f c' : Addr), L2.Room k (A.deeper (LamX.lamEnv X scope s.heap.objs.size f c')) → PE (LamX.lamCx X A outer s H E scope f c') body (tI G (fun cls d _ H' => E cls d H') X.K i))
    (hdb : (x == ("__debug__" : Str)) = false := by decide) (hd : (a == ("__debug__" : Str)) = false := by decide) (hcd : (a == ("__classdict__" : Str)) = false := by decide) :
    PE X (.Call (.Name x p) [.Lambda params body scope lpos] [] pos) (tI G W X.K (.heard cs i)) :=
  PE.by_ (LamX.pe_lamcall hg hm hk lk hcg hb Sg hNg hva hG TB hcode hmT hu hr L hdef hbind hbody hdb hd hcd) fun σ H Q q => heard_read F q
theorem lam_takes {A : Around} {outer : List PySem.Env} {s : Shared} {H : Hp} {E : XK} {scope : Scope} {f c' : Addr} : Takes (LamX.lamCx X A outer s H E scope f c') (fun cls d _ H' => E cls d H') := takes_of rfl rfl rfl rfl
end
/-- the room of a lambda's body: nothing is known of the guards -/
theorem Room.plain {k : Nat} {A : Around} (h : L2.Room k A) : @Room ⟨False⟩ k A := @Room.mk ⟨False⟩ k A h (fun z => z.elim)
end Mp
set_option maxHeartbeats 4000000
theorem L2.Room.u100 {k : Nat} {A : PySem.Around} (h : L2.Room k A) : A.units + 100 < PySem.cLine := by have := h.un; omega
namespace Mp
open PySem PySem.Spec PyProof.Rows L2
variable [TabsW] [GdW]
section
variable {X : Cx} {G : Ctx} {W : WX}
theorem b_repr {k : Nat} {a : Expr} {i : IR} {p pos : Pos} (hgd : X.A.guards = some []) (hr : L2.Room k X.A) (hm : X.mg "repr" = none) (hg : Gl X "repr") (ha : PE X a (tI G W X.K i)) (h1 : starB a = false) : PE X (.Call (.Name "repr" p) [a] [] pos) (tI G W X.K (.blt .repr [i])) :=
  e_bltF (call_repr hgd) (s_repr hr) hg hm rfl (ar_cons ha ar_nil h1) (by simp [h1]) (by decide) rfl
theorem e_callP {k j : Nat} {f : Fn} {x : Str} {e : Expr} {es : List Expr} {is : List IR} {p pos : Pos} (F : @FnF _ ⟨False⟩ X.prog X.w X.K X.mg X.base k x f) (hj : G.fns[j]? = some f) (hr : L2.Room k X.A) (tk : Takes X W) (hg : Gl X x) (ha : PA X (e :: es) (tIa G W X.K f.io 0 is)) (h1 : (e :: es).any starB = false) :
    PE X (.Call (.Name x p) (e :: es) [] pos) (tI G W X.K (.call j is)) := @e_call _ ⟨False⟩ X G W k j f x e es is p pos F hj (Room.plain hr) tk hg ha h1
end
section
variable {P : Program} {w : World} {K : PySem.W.Frag} {mg : Str → Option Value} {base : Heap} {G : Ctx}
/-- a def by its body, where its code object is known -/
theorem fn_bodyC {x qual : Str} {st : Stmt} {f c : Addr} {fd : FuncData} {N ps : List Str} {k : Nat} {io : Option Nat} {b : List ST} (F : Fun K x qual st f fd) (hc : fd.code = .ref c) (S : FnScope N ps (defScope st)) (hn : ps.length ≤ N.length)
    (hb : ∀ (A : Around) (outer : List PySem.Env) (s : Shared) (H : Hp) (E : XK), Room k (A.deeper (envOfC qual (defScope st) s.heap.objs.size f (.ref c))) →
      PSs (cxOf (L2.CX P w) P w K mg base N qual (defScope st) f (.ref c) A outer s H E) (defBody st) (tSs G (fun cls d _ H' => E cls d H') K b)) :
    FnOk P w K mg base (L2.CX P w) (k + 1) f fd ps (spF K ps.length io (semB G N.length io b)) := by
  obtain ⟨oc, od, kV, doc, pm, an, cdv, ct, osl, rfl, lk, hcd⟩ := F.ex
  have e : cdv = .ref c := hc
  subst e
  exact fn_text lk hcd S (fun vs H Q E h => h.1) fun A out s H vs Q E hr h => ⟨_, hb A out s H E hr, body_read hn h⟩
/-- where a def's lambdas are kept -/
structure LamT (base : Heap) (mg : Str → Option Value) (fd : FuncData) (q : Str) (c P : Addr) : Prop where
  code : fd.code = .ref c
  tb : LamX.TabB base mg c P
  mem : (P, q ++ "<lambda>") ∈ TabsW.T
  one : ∀ p ∈ TabsW.T, p.1 = P → p.2 = q ++ "<lambda>"
/-- the def that calls what it got -/
structure HrdF (K : PySem.W.Frag) (mg : Str → Option Value) (x : Str) (st : Stmt) (a : Str) (g : Addr) (cdv : Value) : Prop where
  mg : mg x = some (.ref g)
  kp : PySem.W.keepIn K (.ref g) = true
  ex : ∃ (dV kV doc pm ct oc : Value) (an od : Option Addr) (osl : Array (Option Value)), K.lookup g = some ⟨oc, od, .func (PySem.W.fnOf x x (defArgs st) (defBody st) (defScope st) dV kV doc pm an cdv ct), osl⟩ ∧ L2.Binds K (PySem.W.fnOf x x (defArgs st) (defBody st) (defScope st) dV kV doc pm an cdv ct) [a] []
  cd : PySem.W.codeIn K cdv x = true
end
section
variable {X : Cx} {G : Ctx} {W : WX}
theorem e_hrd {cs : List HC} {i : IR} {x a q : Str} {g c P : Addr} {k : Nat} {st : Stmt} {cdv : Value} {Ng : List Str} {fd : FuncData} {params : Arguments} {body : Expr} {scope : Scope} {p lpos pos : Pos} (EF : ClsFacts X.K cs) (HF : HrdF X.K X.mg x st a g cdv) (Sg : FnScope Ng [a] (defScope st)) (hNg : Ng[0]? = some a) (hva : Vis (defScope st) a)
    (hG : LamX.GivesTo X Ng x (defScope st) g cdv (defBody st) a (X.env.qual ++ "<lambda>") (THeard X.K cs)) (T : LamT X.base X.mg fd q c P) (hq : X.env.qual = q) (hcode : X.env.code = .ref c) (hr : L2.Room (k + 2) X.A) (hg : Gl X x) (L : LamX.LamS X.env.scope scope) (hdef : defaultsOf params X.env = ([], []))
    (hbind : ∀ (q : Str) (cl : List (Str × Addr)) (pm cv ctv : Value), bindArgs (PySem.W.kla_fn "<lambda>" q params body scope cl pm cv ctv) ⟨[], []⟩ = pure [])
    (hbody : ∀ (A : Around) (outer : List PySem.Env) (s : Shared) (H : Hp) (E : XK) (f c' : Addr), L2.Room k (A.deeper (LamX.lamEnv X scope s.heap.objs.size f c')) → PE (LamX.lamCx X A outer s H E scope f c') body (tI G (fun cls d _ H' => E cls d H') X.K i))
    (hdb : (x == ("__debug__" : Str)) = false) (hd : (a == ("__debug__" : Str)) = false) (hcd : (a == ("__classdict__" : Str)) = false) : PE X (.Call (.Name x p) [.Lambda params body scope lpos] [] pos) (tI G W X.K (.heard cs i)) := by
  obtain ⟨dV, kV, doc, pm, ct, oc, an, od, osl, lk, hb⟩ := HF.ex
  subst hq
  exact e_heard EF hg HF.mg HF.kp lk HF.cd hb Sg hNg hva hG T.tb hcode T.mem T.one hr L hdef hbind hbody hdb hd hcd
end
end Mp
set_option maxHeartbeats 2000000
namespace Mp
open PySem L2
mutual
theorem eqD_self : ∀ (n : Nat) (d : D), dataD n d = true → eqD d d = true
  | _, .non, _ => by rw [eqD]
  | _, .bl b, _ => by rw [eqD]; simp
  | _, .int i, _ => by rw [eqD]; simp
  | _, .str s, _ => by rw [eqD]; simp
  | 0, .lst ds, h => by simp [dataD] at h
  | 0, .tup ds, h => by simp [dataD] at h
  | n + 1, .lst ds, h => by rw [dataD] at h; rw [eqD]; exact eqDs_self n ds h
  | n + 1, .tup ds, h => by rw [dataD] at h; rw [eqD]; exact eqDs_self n ds h
  | 0, .obj _ _ _, h => by simp [dataD] at h
  | 0, .raw _, h => by simp [dataD] at h
  | n + 1, .obj _ _ _, h => by simp [dataD] at h
  | n + 1, .raw _, h => by simp [dataD] at h
theorem eqDs_self : ∀ (n : Nat) (ds : List D), dataDs n ds = true → eqDs ds ds = true
  | _, [], _ => by rw [eqDs]
  | n, d :: ds, h => by
    rw [dataDs, Bool.and_eq_true] at h
    rw [eqDs, eqD_self n d h.1, eqDs_self n ds h.2]; rfl
end
theorem cmp_self {d : D} (h : dataD 20 d = true) : cmpD .eq d d = some true := by
  show (if dataD 20 d && dataD 20 d then some (eqD d d) else none) = _
  rw [h, eqD_self 20 d h]; rfl
theorem cmp_nself {d : D} (h : dataD 20 d = true) : cmpD .ne d d = some false := by
  show (if dataD 20 d && dataD 20 d then some (!eqD d d) else none) = _
  rw [h, eqD_self 20 d h]; rfl
theorem dataDs_all {n : Nat} : ∀ {ds : List D}, (∀ d, d ∈ ds → dataD n d = true) → dataDs n ds = true
  | [], _ => by rw [dataDs]
  | d :: ds, h => by
    rw [dataDs, h d List.mem_cons_self, dataDs_all fun e he => h e (List.mem_cons_of_mem _ he)]; rfl
theorem dataD_lst {n : Nat} {ds : List D} (h : ∀ d, d ∈ ds → dataD n d = true) : dataD (n + 1) (.lst ds) = true := by rw [dataD]; exact dataDs_all h
theorem dataD_tup {n : Nat} {ds : List D} (h : ∀ d, d ∈ ds → dataD n d = true) : dataD (n + 1) (.tup ds) = true := by rw [dataD]; exact dataDs_all h
theorem dataD_int {n : Nat} {i : Int} : dataD n (.int i) = true := by cases n <;> rw [dataD]
theorem dataD_non {n : Nat} : dataD n .non = true := by cases n <;> rw [dataD]
theorem cmp_int_ne {i j : Int} (h : ¬ i = j) : cmpD .eq (.int i) (.int j) = some false := by
  show (if dataD 20 (.int i) && dataD 20 (.int j) then some (eqD (.int i) (.int j)) else none) = _
  rw [dataD_int, dataD_int, eqD, beq_eq_false_iff_ne.mpr h]; rfl
section
variable [TabsW] [GdW]
theorem iota_map' (lo : Nat) : ∀ n, iotaD lo n = (List.range' lo n).map fun k : Nat => D.int (k : Int)
  | 0 => rfl
  | n + 1 => by
    rw [iotaD, List.range'_succ, List.map_cons, ← iota_map' (lo + 1) n]
    rfl
theorem lcLoop_map {α : Type} {env0 : Env} {i : Nat} {T : Option (Env → R Bool)} {E : Env → R D} {f g : α → D} {p : α → Bool} (hi : i < env0.length) : ∀ (l : List α) (env : Env), env.set i none = env0.set i none →
    (∀ a, a ∈ l → tstR T (env0.set i (some (.dat (f a)))) = .ok (p a) (env0.set i (some (.dat (f a))))) →
    (∀ a, a ∈ l → p a = true → E (env0.set i (some (.dat (f a)))) = .ok (g a) (env0.set i (some (.dat (f a))))) →
    ∃ env', lcLoop [i] (.name i) T E (l.map f) env = .ok ((l.filter p).map g) env' ∧ env'.set i none = env0.set i none
  | [], env, h, _, _ => ⟨env, rfl, h⟩
  | a :: l, env, h, hT, hE => by
    have hb : bindT (.name i) (f a) (wipeE env [i]) = some (env0.set i (some (.dat (f a)))) := by
      show (if freeB (env.set i none) i = true then some ((env.set i none).set i (some (Cell.dat (f a)))) else none) = _
      rw [h, if_pos (free_wipe hi), List.set_set]
    have t := hT a List.mem_cons_self
    obtain ⟨env', e1, e2⟩ := lcLoop_map hi l (env0.set i (some (.dat (f a)))) (by rw [List.set_set]) (fun d hd => hT d (List.mem_cons_of_mem _ hd)) (fun d hd => hE d (List.mem_cons_of_mem _ hd))
    rw [List.map_cons, lcLoop_cons hb, t]
    refine ⟨env', ?_, e2⟩
    cases hp : p a with
    | false =>
      rw [List.filter_cons_of_neg (by rw [hp]; decide)]
      exact e1
    | true =>
      rw [List.filter_cons_of_pos hp, List.map_cons]
      show ((E (env0.set i (some (.dat (f a))))).bind fun x env3 => (lcLoop [i] (.name i) T E (l.map f) env3).bind fun xs env4 => R.ok (x :: xs) env4) = _
      rw [hE a List.mem_cons_self hp]
      show ((lcLoop [i] (.name i) T E (l.map f) (env0.set i (some (.dat (f a))))).bind fun xs env4 => R.ok (g a :: xs) env4) = _
      rw [e1]; rfl
variable {G : Ctx}
theorem lc_go {tg : Tgt} {it : IT} {t : Option IR} {e : IR} {own : List Nat} {env env0 env' : Env} {ds xs : List D} (hit : evi G it env = .ok ds env0) (hl : ds.length ≤ BIG) (hh : own.all (hideB env0) = true) (ho : (tgOwn tg).all (fun j => own.contains j) = true)
    (h : lcLoop own tg (tsF G t) (fun x => (ev G e x).take) ds env0 = .ok xs env') : ev G (.lc tg it t e own) env = .ok (.val (.lst xs)) (backE env0 env' own) := by
  rw [ev_lc, hit]
  show (if ds.length ≤ BIG ∧ own.all (hideB env0) = true ∧ (tgOwn tg).all (fun j => own.contains j) = true then _ else _) = _
  rw [if_pos ⟨hl, hh, ho⟩, h]
  rfl
theorem ev_lc_map {α : Type} {i : Nat} {it : IT} {e : IR} {env env0 : Env} {l : List α} {f g : α → D} (hit : evi G it env = .ok (l.map f) env0) (hl : l.length ≤ BIG) (hh : hideB env0 i = true) (hi : i < env0.length)
    (hE : ∀ a, a ∈ l → (ev G e (env0.set i (some (.dat (f a))))).take = .ok (g a) (env0.set i (some (.dat (f a))))) :
    ev G (.lc (.name i) it none e [i]) env = .ok (.val (.lst (l.map g))) env0 := by
  obtain ⟨env', e1, e2⟩ := lcLoop_map (T := tsF G none) (E := fun x => (ev G e x).take) (f := f) (g := g) (p := fun _ => true) hi l env0 rfl (fun _ _ => rfl) fun a ha _ => hE a ha
  rw [lc_go hit (by simpa using hl) (by simp [hh]) (by simp [tgOwn]) e1, back_same e2, List.filter_eq_self.mpr (fun _ _ => rfl)]
/-- a comprehension each turn of which changes the list in slot s -/
theorem ev_lc_draw {α β : Type} {i s : Nat} {it : IT} {e : IR} {env env0 : Env} {l : List α} {f : α → D} {h : β → D} {Q : β → Prop} {S : List D → Prop} {c : List D → Cell} {u0 : List D} (hit : evi G it env = .ok (l.map f) (env0.set s (some (c u0)))) (hS : S u0) (hl : l.length ≤ BIG) (hne : s ≠ i) (hn : env0[i]? = some none)
    (step : ∀ a, a ∈ l → ∀ u, S u → ∃ (m : β) (u' : List D), S u' ∧ Q m ∧ (ev G e ((env0.set s (some (c u))).set i (some (.dat (f a))))).take = .ok (h m) ((env0.set s (some (c u'))).set i (some (.dat (f a))))) :
    ∃ (ms : List β) (u' : List D), S u' ∧ ms.length = l.length ∧ (∀ m, m ∈ ms → Q m) ∧ ev G (.lc (.name i) it none e [i]) env = .ok (.val (.lst (ms.map h))) (env0.set s (some (c u'))) := by
  have hi : i < env0.length := (List.getElem?_eq_some_iff.mp hn).1
  have loop : ∀ (l : List α) (env : Env) (u : List D), S u → env.set i none = (env0.set s (some (c u))).set i none →
      (∀ a, a ∈ l → ∀ u, S u → ∃ (m : β) (u' : List D), S u' ∧ Q m ∧ (ev G e ((env0.set s (some (c u))).set i (some (.dat (f a))))).take = .ok (h m) ((env0.set s (some (c u'))).set i (some (.dat (f a))))) →
      ∃ (ms : List β) (u' : List D) (env' : Env), S u' ∧ ms.length = l.length ∧ (∀ m, m ∈ ms → Q m) ∧ lcLoop [i] (.name i) none (fun x => (ev G e x).take) (l.map f) env = .ok (ms.map h) env' ∧ env'.set i none = (env0.set s (some (c u'))).set i none := by
    intro l
    induction l with
    | nil => exact fun env u hu he _ => ⟨[], u, env, hu, rfl, (fun _ z => nomatch z), rfl, he⟩
    | cons a l ih =>
      intro env u hu he hs
      obtain ⟨m, u1, hu1, hq, hx⟩ := hs a List.mem_cons_self u hu
      have hb : bindT (.name i) (f a) (wipeE env [i]) = some ((env0.set s (some (c u))).set i (some (.dat (f a)))) := by
        show (if freeB (env.set i none) i = true then some ((env.set i none).set i (some (Cell.dat (f a)))) else none) = _
        rw [he, if_pos (free_wipe (by rw [List.length_set]; exact hi)), List.set_set]
      obtain ⟨ms, u2, env', g1, g2, g3, g4, g5⟩ := ih ((env0.set s (some (c u1))).set i (some (.dat (f a)))) u1 hu1 (by rw [List.set_set]) fun a ha => hs a (List.mem_cons_of_mem _ ha)
      refine ⟨m :: ms, u2, env', g1, by simp [g2], fun x hx => ?_, ?_, g5⟩
      · rcases List.mem_cons.mp hx with rfl | hx
        · exact hq
        · exact g3 x hx
      · rw [List.map_cons, lcLoop_cons hb]
        show ((ev G e ((env0.set s (some (c u))).set i (some (.dat (f a))))).take.bind fun x env3 => (lcLoop [i] (.name i) none (fun x => (ev G e x).take) (l.map f) env3).bind fun xs env4 => R.ok (x :: xs) env4) = _
        rw [hx]
        show ((lcLoop [i] (.name i) none (fun x => (ev G e x).take) (l.map f) ((env0.set s (some (c u1))).set i (some (.dat (f a))))).bind fun xs env4 => R.ok (h m :: xs) env4) = _
        rw [g4]; rfl
  obtain ⟨ms, u', env', g1, g2, g3, g4, g5⟩ := loop l (env0.set s (some (c u0))) u0 hS rfl step
  refine ⟨ms, u', g1, g2, g3, ?_⟩
  have hh : hideB (env0.set s (some (c u0))) i = true := by
    unfold hideB
    rw [List.getElem?_set_ne hne, hn]
  rw [lc_go (t := none) hit (by simpa using hl) (by simp [hh]) (by simp [tgOwn]) g4]
  congr 1
  have e1 : backE (env0.set s (some (c u0))) env' [i] = env'.set i none := by
    unfold backE
    unfold backE
    rw [List.getElem?_set_ne hne, hn]; rfl
  rw [e1, g5]
  refine List.ext_getElem? fun j => ?_
  by_cases hj : i = j
  · subst hj
    rw [List.getElem?_set_self (by rw [List.length_set]; exact hi), List.getElem?_set_ne hne, hn]
  · rw [List.getElem?_set_ne hj]
end
end Mp
set_option maxHeartbeats 4000000
namespace Mp
/-- the told moments in order -/
def srt (ms : List (Option Nat)) : List Nat := (ms.filterMap id).mergeSort
/-- the n-th of moments, from 1 -/
def nthM (ms : List (Option Nat)) (n : Nat) : Option Nat := (srt ms)[n - 1]?
def greM (ms : List (Option Nat)) : Option Nat := if ms = [] then some 0 else nthM ms ms.length
def ltM : Option Nat → Option Nat → Bool
  | none, _ => false
  | some _, none => true
  | some a, some b => decide (a < b)
/-- at most a minute -/
def atM (m : Option Nat) (y : Nat) : Prop := ∃ a, m = some a ∧ a ≤ y
instance (m : Option Nat) (y : Nat) : Decidable (atM m y) := match m with
  | none => .isFalse (by rintro ⟨a, h, _⟩; cases h)
  | some a => if h : a ≤ y then .isTrue ⟨a, rfl, h⟩ else .isFalse (by rintro ⟨b, h1, h2⟩; cases h1; exact h h2)
def leM (a b : Option Nat) : Prop := ∀ y, atM b y → atM a y
theorem leM.rfl' (a : Option Nat) : leM a a := fun _ h => h
theorem leM.tr {a b c : Option Nat} (h : leM a b) (k : leM b c) : leM a c := fun y z => h y (k y z)
def cnt (ms : List (Option Nat)) (y : Nat) : Nat := ms.countP fun m => decide (atM m y)
theorem cnt_told (y : Nat) : ∀ ms : List (Option Nat), cnt ms y = (ms.filterMap id).countP fun a => decide (a ≤ y)
  | [] => rfl
  | none :: ms => by
    have e : (none :: ms).filterMap id = ms.filterMap id := rfl
    rw [e, ← cnt_told y ms]
    unfold cnt
    rw [List.countP_cons_of_neg]
    exact fun h => by obtain ⟨a, h, _⟩ := of_decide_eq_true h; cases h
  | some a :: ms => by
    have e : (some a :: ms).filterMap id = a :: ms.filterMap id := rfl
    have c := cnt_told y ms
    unfold cnt at c ⊢
    rw [e, List.countP_cons, List.countP_cons, c]
    congr 1
    by_cases h : a ≤ y
    · rw [if_pos (decide_eq_true h), if_pos (decide_eq_true ⟨a, rfl, h⟩)]
    · rw [if_neg (fun z => h (of_decide_eq_true z)), if_neg (fun z => by obtain ⟨b, e1, e2⟩ := of_decide_eq_true z; cases e1; exact h e2)]
theorem sorted_at (y : Nat) : ∀ (l : List Nat), l.Pairwise (· ≤ ·) → ∀ k, (atM l[k]? y ↔ k < l.countP fun a => decide (a ≤ y))
  | [], _, k => by
    constructor
    · rintro ⟨a, h, _⟩; cases h
    · intro h; cases h
  | a :: l, hp, k => by
    have hp' := List.pairwise_cons.mp hp
    by_cases h : a ≤ y
    · have q : (a :: l).countP (fun a => decide (a ≤ y)) = l.countP (fun a => decide (a ≤ y)) + 1 := List.countP_cons_of_pos (by simpa using h)
      rw [q]
      cases k with
      | zero => exact ⟨fun _ => Nat.succ_pos _, fun _ => ⟨a, rfl, h⟩⟩
      | succ k =>
        rw [List.getElem?_cons_succ, sorted_at y l hp'.2 k]
        omega
    · have q : (a :: l).countP (fun a => decide (a ≤ y)) = l.countP (fun a => decide (a ≤ y)) := List.countP_cons_of_neg (by simpa using h)
      rw [q]
      have z : l.countP (fun a => decide (a ≤ y)) = 0 := by
        rw [List.countP_eq_zero]
        intro b hb
        have := hp'.1 b hb
        simp; omega
      rw [z]
      constructor
      · rintro ⟨b, e, k1⟩
        cases k with
        | zero => cases e; exact absurd k1 h
        | succ k =>
          rw [List.getElem?_cons_succ] at e
          have := hp'.1 b (List.mem_of_getElem? e)
          omega
      · intro h; cases h
theorem srt_sorted (ms : List (Option Nat)) : (srt ms).Pairwise (· ≤ ·) := by
  have := List.pairwise_mergeSort (le := fun a b : Nat => decide (a ≤ b)) (by intro a b c; simp; omega) (by intro a b; simp; omega) (ms.filterMap id)
  exact this.imp fun h => by simpa using h
theorem nth_at (ms : List (Option Nat)) (n y : Nat) (hn : 1 ≤ n) : atM (nthM ms n) y ↔ n ≤ cnt ms y := by
  unfold nthM
  rw [sorted_at y _ (srt_sorted ms), cnt_told]
  have : (srt ms).countP (fun a => decide (a ≤ y)) = (ms.filterMap id).countP fun a => decide (a ≤ y) := (List.mergeSort_perm _ _).countP_eq _
  rw [this]
  omega
inductive LeL : List (Option Nat) → List (Option Nat) → Prop where
  | nil : LeL [] []
  | cons {a b as bs} : leM a b → LeL as bs → LeL (a :: as) (b :: bs)
theorem LeL.len {as bs} (h : LeL as bs) : as.length = bs.length := by
  induction h with
  | nil => rfl
  | cons _ _ ih => simp [ih]
abbrev Row := List (Option Nat × Option Nat)
inductive RowLe : Row → Row → Prop where
  | nil : RowLe [] []
  | cons {p q r s} : leM p.1 q.1 → leM p.2 q.2 → RowLe r s → RowLe (p :: r) (q :: s)
theorem RowLe.len {r s} (h : RowLe r s) : r.length = s.length := by
  induction h with
  | nil => rfl
  | cons _ _ _ ih => simp [ih]
theorem RowLe.app {r s p q} (h : RowLe r s) (h1 : leM p.1 q.1) (h2 : leM p.2 q.2) : RowLe (r ++ [p]) (s ++ [q]) := by
  induction h with
  | nil => exact .cons h1 h2 .nil
  | cons a b _ ih => exact .cons a b ih
inductive LeP : List (Option Nat × Nat) → List (Option Nat × Nat) → Prop where
  | nil : LeP [] []
  | cons {p q r s} : leM p.1 q.1 → p.2 ≤ q.2 → LeP r s → LeP (p :: r) (q :: s)
theorem LeP.zip : ∀ {as bs} (_ : LeL as bs) {ns ms : List Nat} (_ : ns.length = ms.length) (_ : ∀ (i : Nat) (a b : Nat), ns[i]? = some a → ms[i]? = some b → a ≤ b), LeP (as.zip ns) (bs.zip ms)
  | _, _, .nil, _, _, _, _ => .nil
  | _, _, .cons _ _, [], [], _, _ => .nil
  | _, _, .cons h1 h2, n :: ns, m :: ms, hl, h => .cons h1 (h 0 n m rfl rfl) (LeP.zip h2 (by simpa using hl) fun i a b x y => h (i + 1) a b x y)
  | _, _, .cons _ _, [], _ :: _, hl, _ => by cases hl
  | _, _, .cons _ _, _ :: _, [], hl, _ => by cases hl
def meetM (opens length q : Nat) (as : List (Option Nat)) : Row :=
  let b := greM [some opens, nthM as q]
  as.map fun a => (b, greM [b.map (· + length), a])
def lesM (a b : Option Nat) : Option Nat := if ltM b a = true then b else a
theorem les_at (a b : Option Nat) (y : Nat) : atM (lesM a b) y ↔ atM a y ∨ atM b y := by
  unfold lesM
  cases a with
  | none =>
    cases b with
    | none => simp [ltM]
    | some b => simp only [ltM, if_true]; exact ⟨.inr, fun h => h.elim (by rintro ⟨_, h, _⟩; cases h) id⟩
  | some a =>
    cases b with
    | none => simp only [ltM, Bool.false_eq_true, if_false]; exact ⟨.inl, fun h => h.elim id (by rintro ⟨_, h, _⟩; cases h)⟩
    | some b =>
      by_cases k : b < a
      · have k' : ltM (some b) (some a) = true := decide_eq_true k
        rw [if_pos k']
        constructor
        · exact .inr
        · rintro (⟨c, e, h⟩ | h)
          · cases e; exact ⟨b, rfl, by omega⟩
          · exact h
      · have k' : ¬ ltM (some b) (some a) = true := fun z => k (of_decide_eq_true z)
        rw [if_neg k']
        constructor
        · exact .inl
        · rintro (h | ⟨c, e, h⟩)
          · exact h
          · cases e; exact ⟨a, rfl, by omega⟩
/-- the begin and the end at a place of a room -/
def rpair (as : List (Option Nat)) (ns : List Nat) (cs : List (Option Nat)) (turn : Nat) (row : Row) (p : Nat) : Option Nat × Option Nat :=
  let a := (as[p]?).getD none
  let b := match row.getLast? with
    | none => a
    | some q => greM [a, q.2.map (· + turn)]
  (b, match (cs[p]?).getD none with
    | none => b.map (· + (ns[p]?).getD 0)
    | some c => if p + 1 = as.length then b.map (· + (ns[p]?).getD 0) else lesM (b.map (· + (ns[p]?).getD 0)) ((greM [b, (as[p + 1]?).getD none]).map (· + c)))
def roomI (as : List (Option Nat)) (ns : List Nat) (cs : List (Option Nat)) (turn : Nat) : Nat → Row
  | 0 => []
  | p + 1 => roomI as ns cs turn p ++ [rpair as ns cs turn (roomI as ns cs turn p) p]
def roomM (as : List (Option Nat)) (ns : List Nat) (cs : List (Option Nat)) (turn : Nat) : Row := roomI as ns cs turn as.length
theorem roomI_len (as ns cs turn) : ∀ p, (roomI as ns cs turn p).length = p
  | 0 => rfl
  | p + 1 => by unfold roomI; rw [List.length_append, roomI_len as ns cs turn p]; rfl
theorem LeL.get {as bs} (h : LeL as bs) : ∀ p : Nat, leM ((as[p]?).getD none) ((bs[p]?).getD none) := by
  induction h with
  | nil => exact fun p => leM.rfl' _
  | cons h1 h2 ih => intro p; cases p with
    | zero => exact h1
    | succ p => exact ih p
theorem roomI_take (as ns cs turn) (k : Nat) : ∀ p, k ≤ p → (roomI as ns cs turn p).take k = roomI as ns cs turn k
  | 0, h => by
    have : k = 0 := by omega
    subst this; rfl
  | p + 1, h => by
    by_cases e : k = p + 1
    · subst e; rw [List.take_of_length_le]; rw [roomI_len]; exact Nat.le_refl _
    · show (roomI as ns cs turn p ++ [rpair as ns cs turn (roomI as ns cs turn p) p]).take k = _
      rw [List.take_append_of_le_length (by rw [roomI_len]; omega)]
      exact roomI_take as ns cs turn k p (by omega)
theorem room_len (as ns cs turn) : (roomM as ns cs turn).length = as.length := roomI_len _ _ _ _ _
end Mp
set_option maxHeartbeats 4000000
namespace Mp
open PySem L2 PyProof.Rows
variable [TabsW] [GdW]
def top (i : Nat) : Stmt := PySem.Challenge.pw_risingday_k14_meetings_and_rooms.main.body.getD i (.Pass ⟨0, 0, 0, 0⟩)
section
variable {P : Program} {w : World} {K : PySem.W.Frag} {mg : Str → Option Value} {base : Heap}
def b_is_whole : List ST := [.ret (.and_ (.isin (.v 0) [.int]) (.not_ (.isin (.v 0) [.bool])))]
def g_is_whole : Ctx := ⟨[], [], [], [], []⟩
def f_is_whole : Fn := ⟨1, none, semB g_is_whole 1 none b_is_whole⟩
theorem sc_is_whole : FnScope ["value"] ["value"] (defScope (top 6)) := ⟨rfl, rfl, rfl, by decide +kernel, rfl, by decide +kernel, by decide +kernel⟩
theorem ok_is_whole {f : Addr} {fd : FuncData} (F : Fun K "is_whole" "is_whole" (top 6) f fd) (z_isinstance : mg "isinstance" = none) (z_int : mg "int" = none) (z_bool : mg "bool" = none) (hC : ∀ C, C ∈ ([] : List Str) → IsC K C) (K_int : IsK K [] .int (.type "int")) (K_bool : IsK K [] .bool (.type "bool")) :
    FnOk P w K mg base (L2.CX P w) 1 f fd ["value"] (spF K 1 none (semB g_is_whole 1 none b_is_whole)) :=
  have S := sc_is_whole
  fn_body F S (by decide) fun cdv A outer s H E hr =>
    (ss_cons (st_ret (e_and (e_isin1 hC K_int (.ty "int") (e_v (i := 0) rfl (by first | exact .inl rfl | exact .inr (.inl rfl) | exact .inr (.inr rfl)) (by decide) (by decide)) (pe_bltn rfl z_int (by decide +kernel) rfl) rfl z_isinstance rfl rfl) (pe_one (e_not (e_isin1 hC K_bool (.ty "bool") (e_v (i := 0) rfl (by first | exact .inl rfl | exact .inr (.inl rfl) | exact .inr (.inr rfl)) (by decide) (by decide)) (pe_bltn rfl z_bool (by decide +kernel) rfl) rfl z_isinstance rfl rfl))))) ss_nil)
def b_is_between : List ST := [.ret (.and_ (.call 0 [.v 0]) (.chn .le .le (.v 1) (.v 0) (.v 2)))]
def g_is_between : Ctx := ⟨[f_is_whole], [], [], [], []⟩
def f_is_between : Fn := ⟨3, none, semB g_is_between 3 none b_is_between⟩
theorem cl_is_between_0 {a0 : IR} {env : Env} : ev g_is_between (.call 0 [a0]) env = (evs g_is_between [a0] env).bind fun ds e1 => runF e1 (f_is_whole.sem ds) := ev_call rfl rfl rfl
theorem sc_is_between : FnScope ["value", "low", "high"] ["value", "low", "high"] (defScope (top 7)) := ⟨rfl, rfl, rfl, by decide +kernel, rfl, by decide +kernel, by decide +kernel⟩
theorem ok_is_between {f : Addr} {fd : FuncData} (F : Fun K "is_between" "is_between" (top 7) f fd) (F_is_whole : FnF P w K mg base 1 "is_whole" f_is_whole) :
    FnOk P w K mg base (L2.CX P w) 2 f fd ["value", "low", "high"] (spF K 3 none (semB g_is_between 3 none b_is_between)) :=
  have S := sc_is_between
  fn_body F S (by decide) fun cdv A outer s H E hr =>
    (ss_cons (st_ret (e_and (e_call F_is_whole rfl (hr.mono (by decide)) (takes_of rfl rfl rfl rfl) rfl (aa_cons (e_v (i := 0) rfl (by first | exact .inl rfl | exact .inr (.inl rfl) | exact .inr (.inr rfl)) (by decide) (by decide)) aa_nil rfl) rfl) (pe_one (e_chn op_le op_le s_le s_le (e_v (i := 1) rfl (by first | exact .inl rfl | exact .inr (.inl rfl) | exact .inr (.inr rfl)) (by decide) (by decide)) (e_v (i := 0) rfl (by first | exact .inl rfl | exact .inr (.inl rfl) | exact .inr (.inr rfl)) (by decide) (by decide)) (e_v (i := 2) rfl (by first | exact .inl rfl | exact .inr (.inl rfl) | exact .inr (.inr rfl)) (by decide) (by decide)) rfl)))) ss_nil)
def b_is_count : List ST := [.ret (.and_ (.call 0 [.v 0]) (.cmp .ge (.v 0) (.c (.int 0))))]
def g_is_count : Ctx := ⟨[f_is_whole], [], [], [], []⟩
def f_is_count : Fn := ⟨1, none, semB g_is_count 1 none b_is_count⟩
theorem sc_is_count : FnScope ["value"] ["value"] (defScope (top 8)) := ⟨rfl, rfl, rfl, by decide +kernel, rfl, by decide +kernel, by decide +kernel⟩
theorem ok_is_count {f : Addr} {fd : FuncData} (F : Fun K "is_count" "is_count" (top 8) f fd) (F_is_whole : FnF P w K mg base 1 "is_whole" f_is_whole) :
    FnOk P w K mg base (L2.CX P w) 2 f fd ["value"] (spF K 1 none (semB g_is_count 1 none b_is_count)) :=
  have S := sc_is_count
  fn_body F S (by decide) fun cdv A outer s H E hr =>
    (ss_cons (st_ret (e_and (e_call F_is_whole rfl (hr.mono (by decide)) (takes_of rfl rfl rfl rfl) rfl (aa_cons (e_v (i := 0) rfl (by first | exact .inl rfl | exact .inr (.inl rfl) | exact .inr (.inr rfl)) (by decide) (by decide)) aa_nil rfl) rfl) (pe_one (x_ge (e_v (i := 0) rfl (by first | exact .inl rfl | exact .inr (.inl rfl) | exact .inr (.inr rfl)) (by decide) (by decide)) xi)))) ss_nil)
def b_is_count_or_never : List ST := [.ret (.or_ (.cmp .is_ (.v 0) (.c .non)) (.call 0 [.v 0]))]
def g_is_count_or_never : Ctx := ⟨[f_is_count], [], [], [], []⟩
def f_is_count_or_never : Fn := ⟨1, none, semB g_is_count_or_never 1 none b_is_count_or_never⟩
theorem sc_is_count_or_never : FnScope ["value"] ["value"] (defScope (top 9)) := ⟨rfl, rfl, rfl, by decide +kernel, rfl, by decide +kernel, by decide +kernel⟩
theorem ok_is_count_or_never {f : Addr} {fd : FuncData} (F : Fun K "is_count_or_never" "is_count_or_never" (top 9) f fd) (F_is_count : FnF P w K mg base 2 "is_count" f_is_count) :
    FnOk P w K mg base (L2.CX P w) 3 f fd ["value"] (spF K 1 none (semB g_is_count_or_never 1 none b_is_count_or_never)) :=
  have S := sc_is_count_or_never
  fn_body F S (by decide) fun cdv A outer s H E hr =>
    (ss_cons (st_ret (e_or (x_is (e_v (i := 0) rfl (by first | exact .inl rfl | exact .inr (.inl rfl) | exact .inr (.inr rfl)) (by decide) (by decide)) xn) (pe_one (e_call F_is_count rfl (hr.mono (by decide)) (takes_of rfl rfl rfl rfl) rfl (aa_cons (e_v (i := 0) rfl (by first | exact .inl rfl | exact .inr (.inl rfl) | exact .inr (.inr rfl)) (by decide) (by decide)) aa_nil rfl) rfl)))) ss_nil)
def b_is_listed : List ST := [.ret (.isin (.v 0) [.list, .tuple])]
def g_is_listed : Ctx := ⟨[], [], [], [], []⟩
def f_is_listed : Fn := ⟨1, none, semB g_is_listed 1 none b_is_listed⟩
theorem sc_is_listed : FnScope ["value"] ["value"] (defScope (top 10)) := ⟨rfl, rfl, rfl, by decide +kernel, rfl, by decide +kernel, by decide +kernel⟩
theorem ok_is_listed {f : Addr} {fd : FuncData} (F : Fun K "is_listed" "is_listed" (top 10) f fd) (z_isinstance : mg "isinstance" = none) (z_list : mg "list" = none) (z_tuple : mg "tuple" = none) (hC : ∀ C, C ∈ ([] : List Str) → IsC K C) (K_list : IsK K [] .list (.type "list")) (K_tuple : IsK K [] .tuple (.type "tuple")) :
    FnOk P w K mg base (L2.CX P w) 1 f fd ["value"] (spF K 1 none (semB g_is_listed 1 none b_is_listed)) :=
  have S := sc_is_listed
  fn_body F S (by decide) fun cdv A outer s H E hr =>
    (ss_cons (st_ret (e_isin2 hC K_list K_tuple (.ty "list") (.ty "tuple") (e_v (i := 0) rfl (by first | exact .inl rfl | exact .inr (.inl rfl) | exact .inr (.inr rfl)) (by decide) (by decide)) (pe_bltn rfl z_list (by decide +kernel) rfl) (pe_bltn rfl z_tuple (by decide +kernel) rfl) rfl z_isinstance rfl rfl rfl)) ss_nil)
def b_need_count : List ST := [.if_ (.not_ (.call 0 [.v 0])) [.raise "BadNumber" "number" (.v 0)] []]
def g_need_count : Ctx := ⟨[f_is_count], [], [], [], []⟩
def f_need_count : Fn := ⟨1, none, semB g_need_count 1 none b_need_count⟩
theorem cl_need_count_0 {a0 : IR} {env : Env} : ev g_need_count (.call 0 [a0]) env = (evs g_need_count [a0] env).bind fun ds e1 => runF e1 (f_is_count.sem ds) := ev_call rfl rfl rfl
theorem sc_need_count : FnScope ["number"] ["number"] (defScope (top 12)) := ⟨rfl, rfl, rfl, by decide +kernel, rfl, by decide +kernel, by decide +kernel⟩
theorem ok_need_count {f : Addr} {fd : FuncData} (F : Fun K "need_count" "need_count" (top 12) f fd) {I_BadNumber : Addr} (T_BadNumber : PySem.ErrBadNumber.LowTxt K mg (clsAt K "BadNumber") I_BadNumber) (F_is_count : FnF P w K mg base 2 "is_count" f_is_count) :
    FnOk P w K mg base (L2.CX P w) 3 f fd ["number"] (spF K 1 none (semB g_need_count 1 none b_need_count)) :=
  have S := sc_need_count
  fn_body F S (by decide) fun cdv A outer s H E hr =>
    (ss_cons (st_if (t_not (t_truth (e_call F_is_count rfl (hr.mono (by decide)) (takes_of rfl rfl rfl rfl) rfl (aa_cons (e_v (i := 0) rfl (by first | exact .inl rfl | exact .inr (.inl rfl) | exact .inr (.inr rfl)) (by decide) (by decide)) aa_nil rfl) rfl) (fun _ => rfl))) (ss_cons (st_raise (ps_raiseLow_BadNumber rfl T_BadNumber hr.r (takes_of rfl rfl rfl rfl) (as_cons (e_v (i := 0) rfl (by first | exact .inl rfl | exact .inr (.inl rfl) | exact .inr (.inr rfl)) (by decide) (by decide)) as_nil rfl))) ss_nil) ss_nil) ss_nil)
def b_need_minute : List ST := [.if_ (.not_ (.call 0 [.v 0])) [.raise "BadNumber" "number" (.v 0)] []]
def g_need_minute : Ctx := ⟨[f_is_count_or_never], [], [], [], []⟩
def f_need_minute : Fn := ⟨1, none, semB g_need_minute 1 none b_need_minute⟩
theorem cl_need_minute_0 {a0 : IR} {env : Env} : ev g_need_minute (.call 0 [a0]) env = (evs g_need_minute [a0] env).bind fun ds e1 => runF e1 (f_is_count_or_never.sem ds) := ev_call rfl rfl rfl
theorem sc_need_minute : FnScope ["number"] ["number"] (defScope (top 13)) := ⟨rfl, rfl, rfl, by decide +kernel, rfl, by decide +kernel, by decide +kernel⟩
theorem ok_need_minute {f : Addr} {fd : FuncData} (F : Fun K "need_minute" "need_minute" (top 13) f fd) {I_BadNumber : Addr} (T_BadNumber : PySem.ErrBadNumber.LowTxt K mg (clsAt K "BadNumber") I_BadNumber) (F_is_count_or_never : FnF P w K mg base 3 "is_count_or_never" f_is_count_or_never) :
    FnOk P w K mg base (L2.CX P w) 4 f fd ["number"] (spF K 1 none (semB g_need_minute 1 none b_need_minute)) :=
  have S := sc_need_minute
  fn_body F S (by decide) fun cdv A outer s H E hr =>
    (ss_cons (st_if (t_not (t_truth (e_call F_is_count_or_never rfl (hr.mono (by decide)) (takes_of rfl rfl rfl rfl) rfl (aa_cons (e_v (i := 0) rfl (by first | exact .inl rfl | exact .inr (.inl rfl) | exact .inr (.inr rfl)) (by decide) (by decide)) aa_nil rfl) rfl) (fun _ => rfl))) (ss_cons (st_raise (ps_raiseLow_BadNumber rfl T_BadNumber hr.r (takes_of rfl rfl rfl rfl) (as_cons (e_v (i := 0) rfl (by first | exact .inl rfl | exact .inr (.inl rfl) | exact .inr (.inr rfl)) (by decide) (by decide)) as_nil rfl))) ss_nil) ss_nil) ss_nil)
def b_need_minutes : List ST := [.if_ (.or_ (.not_ (.call 0 [.v 1])) (.not_ (.blt .all [.lc (.name 2) (.seq (.v 1)) none (.call 1 [.v 2]) [2]]))) [.raise "BadPart" "part" (.v 0)] []]
def g_need_minutes : Ctx := ⟨[f_is_listed, f_is_count_or_never], [], [], [], []⟩
def f_need_minutes : Fn := ⟨2, none, semB g_need_minutes 3 none b_need_minutes⟩
theorem cl_need_minutes_0 {a0 : IR} {env : Env} : ev g_need_minutes (.call 0 [a0]) env = (evs g_need_minutes [a0] env).bind fun ds e1 => runF e1 (f_is_listed.sem ds) := ev_call rfl rfl rfl
theorem cl_need_minutes_1 {a0 : IR} {env : Env} : ev g_need_minutes (.call 1 [a0]) env = (evs g_need_minutes [a0] env).bind fun ds e1 => runF e1 (f_is_count_or_never.sem ds) := ev_call rfl rfl rfl
theorem sc_need_minutes : FnScope ["part", "minutes", "minute"] ["part", "minutes"] (defScope (top 14)) := ⟨rfl, rfl, rfl, by decide +kernel, rfl, by decide +kernel, by decide +kernel⟩
theorem ok_need_minutes {f : Addr} {fd : FuncData} (F : Fun K "need_minutes" "need_minutes" (top 14) f fd) {I_BadPart : Addr} (T_BadPart : PySem.ErrBadPart.LowTxt K mg (clsAt K "BadPart") I_BadPart) (F_is_listed : FnF P w K mg base 1 "is_listed" f_is_listed) (F_is_count_or_never : FnF P w K mg base 3 "is_count_or_never" f_is_count_or_never) (z_all : mg "all" = none) :
    FnOk P w K mg base (L2.CX P w) 4 f fd ["part", "minutes"] (spF K 2 none (semB g_need_minutes 3 none b_need_minutes)) :=
  have S := sc_need_minutes
  fn_body F S (by decide) fun cdv A outer s H E hr =>
    (ss_cons (st_if (PW.pt (w_or (t_not (t_truth (e_call F_is_listed rfl (hr.mono (by decide)) (takes_of rfl rfl rfl rfl) rfl (aa_cons (e_v (i := 1) rfl (by first | exact .inl rfl | exact .inr (.inl rfl) | exact .inr (.inr rfl)) (by decide) (by decide)) aa_nil rfl) rfl) (fun _ => rfl))) (w_or1 (t_not (t_truth (b_all rfl z_all rfl (e_lc (own := [("minute", 2)]) rfl S.nd (i_seq (e_v (i := 1) rfl (by first | exact .inl rfl | exact .inr (.inl rfl) | exact .inr (.inr rfl)) (by decide) (by decide))) (blkOk_by (N := ["part", "minutes", "minute"]) (sc := defScope (top 14)) (by decide +kernel)) (fun _ _ _ _ _ => (pg_name (i := 2) S.nd rfl (by first | exact .inl rfl | exact .inr rfl) (by first | exact .inl rfl | exact .inr rfl))) (fun _ _ _ _ _ => pts_nil) (fun _ _ _ _ _ => (e_call F_is_count_or_never rfl (hr.mono (by decide)) takes0 rfl (aa_cons (e_v (i := 2) rfl (by first | exact .inl rfl | exact .inr (.inl rfl) | exact .inr (.inr rfl)) (by decide) (by decide)) aa_nil rfl) rfl)) (fun _ => rfl)) rfl) (fun _ => rfl)))))) (ss_cons (st_raise (ps_raiseLow_BadPart rfl T_BadPart hr.r (takes_of rfl rfl rfl rfl) (as_cons (e_v (i := 0) rfl (by first | exact .inl rfl | exact .inr (.inl rfl) | exact .inr (.inr rfl)) (by decide) (by decide)) as_nil rfl))) ss_nil) ss_nil) ss_nil)
def b_is_less : List ST := [.if_ (.cmp .is_ (.v 0) (.c .non)) [.ret (.c (.bl false))] [], .ret (.or_ (.cmp .is_ (.v 1) (.c .non)) (.cmp .lt (.v 0) (.v 1)))]
def g_is_less : Ctx := ⟨[], [], [], [], []⟩
def f_is_less : Fn := ⟨2, none, semB g_is_less 2 none b_is_less⟩
theorem sc_is_less : FnScope ["one", "other"] ["one", "other"] (defScope (top 16)) := ⟨rfl, rfl, rfl, by decide +kernel, rfl, by decide +kernel, by decide +kernel⟩
theorem ok_is_less {f : Addr} {fd : FuncData} (F : Fun K "is_less" "is_less" (top 16) f fd)  :
    FnOk P w K mg base (L2.CX P w) 1 f fd ["one", "other"] (spF K 2 none (semB g_is_less 2 none b_is_less)) :=
  have S := sc_is_less
  fn_body F S (by decide) fun cdv A outer s H E hr =>
    (ss_cons (st_if (y_is (e_v (i := 0) rfl (by first | exact .inl rfl | exact .inr (.inl rfl) | exact .inr (.inr rfl)) (by decide) (by decide)) xn) (ss_cons (st_ret xb) ss_nil) ss_nil) (ss_cons (st_ret (e_or (x_is (e_v (i := 1) rfl (by first | exact .inl rfl | exact .inr (.inl rfl) | exact .inr (.inr rfl)) (by decide) (by decide)) xn) (pe_one (x_lt (e_v (i := 0) rfl (by first | exact .inl rfl | exact .inr (.inl rfl) | exact .inr (.inr rfl)) (by decide) (by decide)) (e_v (i := 1) rfl (by first | exact .inl rfl | exact .inr (.inl rfl) | exact .inr (.inr rfl)) (by decide) (by decide)))))) ss_nil))
def b_lesser : List ST := [.ret (.ite (.call 0 [.v 1, .v 0]) (.v 1) (.v 0))]
def g_lesser : Ctx := ⟨[f_is_less], [], [], [], []⟩
def f_lesser : Fn := ⟨2, none, semB g_lesser 2 none b_lesser⟩
theorem cl_lesser_0 {a0 a1 : IR} {env : Env} : ev g_lesser (.call 0 [a0, a1]) env = (evs g_lesser [a0, a1] env).bind fun ds e1 => runF e1 (f_is_less.sem ds) := ev_call rfl rfl rfl
theorem sc_lesser : FnScope ["one", "other"] ["one", "other"] (defScope (top 17)) := ⟨rfl, rfl, rfl, by decide +kernel, rfl, by decide +kernel, by decide +kernel⟩
theorem ok_lesser {f : Addr} {fd : FuncData} (F : Fun K "lesser" "lesser" (top 17) f fd) (F_is_less : FnF P w K mg base 1 "is_less" f_is_less) :
    FnOk P w K mg base (L2.CX P w) 2 f fd ["one", "other"] (spF K 2 none (semB g_lesser 2 none b_lesser)) :=
  have S := sc_lesser
  fn_body F S (by decide) fun cdv A outer s H E hr =>
    (ss_cons (st_ret (e_ite (t_truth (e_call F_is_less rfl (hr.mono (by decide)) (takes_of rfl rfl rfl rfl) rfl (aa_cons (e_v (i := 1) rfl (by first | exact .inl rfl | exact .inr (.inl rfl) | exact .inr (.inr rfl)) (by decide) (by decide)) (aa_cons (e_v (i := 0) rfl (by first | exact .inl rfl | exact .inr (.inl rfl) | exact .inr (.inr rfl)) (by decide) (by decide)) aa_nil rfl) rfl) rfl) (fun _ => rfl)) (e_v (i := 1) rfl (by first | exact .inl rfl | exact .inr (.inl rfl) | exact .inr (.inr rfl)) (by decide) (by decide)) (e_v (i := 0) rfl (by first | exact .inl rfl | exact .inr (.inl rfl) | exact .inr (.inr rfl)) (by decide) (by decide)))) ss_nil)
def b_minutes_more : List ST := [.ret (.ite (.cmp .is_ (.v 0) (.c .non)) (.c .non) (.bin .add (.v 0) (.v 1)))]
def g_minutes_more : Ctx := ⟨[], [], [], [], []⟩
def f_minutes_more : Fn := ⟨2, none, semB g_minutes_more 2 none b_minutes_more⟩
theorem sc_minutes_more : FnScope ["minute", "more"] ["minute", "more"] (defScope (top 18)) := ⟨rfl, rfl, rfl, by decide +kernel, rfl, by decide +kernel, by decide +kernel⟩
theorem ok_minutes_more {f : Addr} {fd : FuncData} (F : Fun K "minutes_more" "minutes_more" (top 18) f fd)  :
    FnOk P w K mg base (L2.CX P w) 1 f fd ["minute", "more"] (spF K 2 none (semB g_minutes_more 2 none b_minutes_more)) :=
  have S := sc_minutes_more
  fn_body F S (by decide) fun cdv A outer s H E hr =>
    (ss_cons (st_ret (e_ite (y_is (e_v (i := 0) rfl (by first | exact .inl rfl | exact .inr (.inl rfl) | exact .inr (.inr rfl)) (by decide) (by decide)) xn) xn (x_add (e_v (i := 0) rfl (by first | exact .inl rfl | exact .inr (.inl rfl) | exact .inr (.inr rfl)) (by decide) (by decide)) (e_v (i := 1) rfl (by first | exact .inl rfl | exact .inr (.inl rfl) | exact .inr (.inr rfl)) (by decide) (by decide))))) ss_nil)
def b_nth_least : List ST := [.asg (.name 2) (.blt .sorted [.lc (.name 3) (.seq (.v 0)) (some (.cmp .isnot (.v 3) (.c .non))) (.blt .int [.v 3]) [3]]), .ret (.ite (.cmp .le (.v 1) (.blt .len [.v 2])) (.ix (.v 2) (.bin .sub (.v 1) (.c (.int 1)))) (.c .non))]
def g_nth_least : Ctx := ⟨[], [], [], [], []⟩
def f_nth_least : Fn := ⟨2, none, semB g_nth_least 4 none b_nth_least⟩
theorem sc_nth_least : FnScope ["minutes", "n", "numbers", "minute"] ["minutes", "n"] (defScope (top 19)) := ⟨rfl, rfl, rfl, by decide +kernel, rfl, by decide +kernel, by decide +kernel⟩
theorem ok_nth_least {f : Addr} {fd : FuncData} (F : Fun K "nth_least" "nth_least" (top 19) f fd) (z_sorted : mg "sorted" = none) (z_int : mg "int" = none) (z_len : mg "len" = none) :
    FnOk P w K mg base (L2.CX P w) 1 f fd ["minutes", "n"] (spF K 2 none (semB g_nth_least 4 none b_nth_least)) :=
  have S := sc_nth_least
  fn_body F S (by decide) fun cdv A outer s H E hr =>
    (ss_cons (st_asg (ps_set (i := 2) S.nd rfl (by first | exact .inl rfl | exact .inr rfl) (b_sorted z_sorted rfl (e_lc (own := [("minute", 3)]) rfl S.nd (i_seq (e_v (i := 0) rfl (by first | exact .inl rfl | exact .inr (.inl rfl) | exact .inr (.inr rfl)) (by decide) (by decide))) (blkOk_by (N := ["minutes", "n", "numbers", "minute"]) (sc := defScope (top 19)) (by decide +kernel)) (fun _ _ _ _ _ => (pg_name (i := 3) S.nd rfl (by first | exact .inl rfl | exact .inr rfl) (by first | exact .inl rfl | exact .inr rfl))) (fun _ _ _ _ _ => (pts_one (y_isnot (e_v (i := 3) rfl (by first | exact .inl rfl | exact .inr (.inl rfl) | exact .inr (.inr rfl)) (by decide) (by decide)) xn))) (fun _ _ _ _ _ => (b_int z_int rfl (e_v (i := 3) rfl (by first | exact .inl rfl | exact .inr (.inl rfl) | exact .inr (.inr rfl)) (by decide) (by decide)) rfl)) (fun _ => rfl)) rfl) rfl (by first | exact .inl rfl | exact .inr rfl))) (ss_cons (st_ret (e_ite (y_le (e_v (i := 1) rfl (by first | exact .inl rfl | exact .inr (.inl rfl) | exact .inr (.inr rfl)) (by decide) (by decide)) (b_len z_len rfl (e_v (i := 2) rfl (by first | exact .inl rfl | exact .inr (.inl rfl) | exact .inr (.inr rfl)) (by decide) (by decide)) rfl)) (e_ix (e_v (i := 2) rfl (by first | exact .inl rfl | exact .inr (.inl rfl) | exact .inr (.inr rfl)) (by decide) (by decide)) (x_sub (e_v (i := 1) rfl (by first | exact .inl rfl | exact .inr (.inl rfl) | exact .inr (.inr rfl)) (by decide) (by decide)) xi) (fun _ _ => rfl)) xn)) ss_nil))
def b_later_by : List ST := [.expr (.call 0 [.v 0]), .expr (.call 1 [.v 1]), .ret (.call 2 [.v 0, .v 1])]
def g_later_by : Ctx := ⟨[f_need_minute, f_need_count, f_minutes_more], [], [], [], []⟩
def f_later_by : Fn := ⟨2, none, semB g_later_by 2 none b_later_by⟩
theorem cl_later_by_0 {a0 : IR} {env : Env} : ev g_later_by (.call 0 [a0]) env = (evs g_later_by [a0] env).bind fun ds e1 => runF e1 (f_need_minute.sem ds) := ev_call rfl rfl rfl
theorem cl_later_by_1 {a0 : IR} {env : Env} : ev g_later_by (.call 1 [a0]) env = (evs g_later_by [a0] env).bind fun ds e1 => runF e1 (f_need_count.sem ds) := ev_call rfl rfl rfl
theorem cl_later_by_2 {a0 a1 : IR} {env : Env} : ev g_later_by (.call 2 [a0, a1]) env = (evs g_later_by [a0, a1] env).bind fun ds e1 => runF e1 (f_minutes_more.sem ds) := ev_call rfl rfl rfl
theorem sc_later_by : FnScope ["moment", "more"] ["moment", "more"] (defScope (top 21)) := ⟨rfl, rfl, rfl, by decide +kernel, rfl, by decide +kernel, by decide +kernel⟩
theorem ok_later_by {f : Addr} {fd : FuncData} (F : Fun K "later_by" "later_by" (top 21) f fd) (F_need_minute : FnF P w K mg base 4 "need_minute" f_need_minute) (F_need_count : FnF P w K mg base 3 "need_count" f_need_count) (F_minutes_more : FnF P w K mg base 1 "minutes_more" f_minutes_more) :
    FnOk P w K mg base (L2.CX P w) 5 f fd ["moment", "more"] (spF K 2 none (semB g_later_by 2 none b_later_by)) :=
  have S := sc_later_by
  fn_body F S (by decide) fun cdv A outer s H E hr =>
    (ss_cons (st_expr (e_call F_need_minute rfl (hr.mono (by decide)) (takes_of rfl rfl rfl rfl) rfl (aa_cons (e_v (i := 0) rfl (by first | exact .inl rfl | exact .inr (.inl rfl) | exact .inr (.inr rfl)) (by decide) (by decide)) aa_nil rfl) rfl) rfl) (ss_cons (st_expr (e_call F_need_count rfl (hr.mono (by decide)) (takes_of rfl rfl rfl rfl) rfl (aa_cons (e_v (i := 1) rfl (by first | exact .inl rfl | exact .inr (.inl rfl) | exact .inr (.inr rfl)) (by decide) (by decide)) aa_nil rfl) rfl) rfl) (ss_cons (st_ret (e_call F_minutes_more rfl (hr.mono (by decide)) (takes_of rfl rfl rfl rfl) rfl (aa_cons (e_v (i := 0) rfl (by first | exact .inl rfl | exact .inr (.inl rfl) | exact .inr (.inr rfl)) (by decide) (by decide)) (aa_cons (e_v (i := 1) rfl (by first | exact .inl rfl | exact .inr (.inl rfl) | exact .inr (.inr rfl)) (by decide) (by decide)) aa_nil rfl) rfl) rfl)) ss_nil)))
def b_greatest : List ST := [.expr (.call 0 [.c (.str "moments"), .v 0]), .ret (.ite (.v 0) (.call 1 [.v 0, .blt .len [.v 0]]) (.c (.int 0)))]
def g_greatest : Ctx := ⟨[f_need_minutes, f_nth_least], [], [], [], []⟩
def f_greatest : Fn := ⟨1, none, semB g_greatest 1 none b_greatest⟩
theorem cl_greatest_0 {a0 a1 : IR} {env : Env} : ev g_greatest (.call 0 [a0, a1]) env = (evs g_greatest [a0, a1] env).bind fun ds e1 => runF e1 (f_need_minutes.sem ds) := ev_call rfl rfl rfl
theorem cl_greatest_1 {a0 a1 : IR} {env : Env} : ev g_greatest (.call 1 [a0, a1]) env = (evs g_greatest [a0, a1] env).bind fun ds e1 => runF e1 (f_nth_least.sem ds) := ev_call rfl rfl rfl
theorem sc_greatest : FnScope ["moments"] ["moments"] (defScope (top 22)) := ⟨rfl, rfl, rfl, by decide +kernel, rfl, by decide +kernel, by decide +kernel⟩
theorem ok_greatest {f : Addr} {fd : FuncData} (F : Fun K "greatest" "greatest" (top 22) f fd) (F_need_minutes : FnF P w K mg base 4 "need_minutes" f_need_minutes) (F_nth_least : FnF P w K mg base 1 "nth_least" f_nth_least) (z_len : mg "len" = none) :
    FnOk P w K mg base (L2.CX P w) 5 f fd ["moments"] (spF K 1 none (semB g_greatest 1 none b_greatest)) :=
  have S := sc_greatest
  fn_body F S (by decide) fun cdv A outer s H E hr =>
    (ss_cons (st_expr (e_call F_need_minutes rfl (hr.mono (by decide)) (takes_of rfl rfl rfl rfl) rfl (aa_cons xs (aa_cons (e_v (i := 0) rfl (by first | exact .inl rfl | exact .inr (.inl rfl) | exact .inr (.inr rfl)) (by decide) (by decide)) aa_nil rfl) rfl) rfl) rfl) (ss_cons (st_ret (e_ite (t_truth (e_v (i := 0) rfl (by first | exact .inl rfl | exact .inr (.inl rfl) | exact .inr (.inr rfl)) (by decide) (by decide)) (fun _ => rfl)) (e_call F_nth_least rfl (hr.mono (by decide)) (takes_of rfl rfl rfl rfl) rfl (aa_cons (e_v (i := 0) rfl (by first | exact .inl rfl | exact .inr (.inl rfl) | exact .inr (.inr rfl)) (by decide) (by decide)) (aa_cons (b_len z_len rfl (e_v (i := 0) rfl (by first | exact .inl rfl | exact .inr (.inl rfl) | exact .inr (.inr rfl)) (by decide) (by decide)) rfl) aa_nil rfl) rfl) rfl) xi)) ss_nil))
def b_need_nth : List ST := [.expr (.call 0 [.c (.str "moments"), .v 0]), .if_ (.or_ (.not_ (.call 1 [.v 1])) (.cmp .lt (.v 1) (.c (.int 1)))) [.raise "BadNumber" "number" (.v 1)] []]
def g_need_nth : Ctx := ⟨[f_need_minutes, f_is_whole], [], [], [], []⟩
def f_need_nth : Fn := ⟨2, none, semB g_need_nth 2 none b_need_nth⟩
theorem cl_need_nth_0 {a0 a1 : IR} {env : Env} : ev g_need_nth (.call 0 [a0, a1]) env = (evs g_need_nth [a0, a1] env).bind fun ds e1 => runF e1 (f_need_minutes.sem ds) := ev_call rfl rfl rfl
theorem cl_need_nth_1 {a0 : IR} {env : Env} : ev g_need_nth (.call 1 [a0]) env = (evs g_need_nth [a0] env).bind fun ds e1 => runF e1 (f_is_whole.sem ds) := ev_call rfl rfl rfl
theorem sc_need_nth : FnScope ["moments", "n"] ["moments", "n"] (defScope (top 23)) := ⟨rfl, rfl, rfl, by decide +kernel, rfl, by decide +kernel, by decide +kernel⟩
theorem ok_need_nth {f : Addr} {fd : FuncData} (F : Fun K "need_nth" "need_nth" (top 23) f fd) {I_BadNumber : Addr} (T_BadNumber : PySem.ErrBadNumber.LowTxt K mg (clsAt K "BadNumber") I_BadNumber) (F_need_minutes : FnF P w K mg base 4 "need_minutes" f_need_minutes) (F_is_whole : FnF P w K mg base 1 "is_whole" f_is_whole) :
    FnOk P w K mg base (L2.CX P w) 5 f fd ["moments", "n"] (spF K 2 none (semB g_need_nth 2 none b_need_nth)) :=
  have S := sc_need_nth
  fn_body F S (by decide) fun cdv A outer s H E hr =>
    (ss_cons (st_expr (e_call F_need_minutes rfl (hr.mono (by decide)) (takes_of rfl rfl rfl rfl) rfl (aa_cons xs (aa_cons (e_v (i := 0) rfl (by first | exact .inl rfl | exact .inr (.inl rfl) | exact .inr (.inr rfl)) (by decide) (by decide)) aa_nil rfl) rfl) rfl) rfl) (ss_cons (st_if (PW.pt (w_or (t_not (t_truth (e_call F_is_whole rfl (hr.mono (by decide)) (takes_of rfl rfl rfl rfl) rfl (aa_cons (e_v (i := 1) rfl (by first | exact .inl rfl | exact .inr (.inl rfl) | exact .inr (.inr rfl)) (by decide) (by decide)) aa_nil rfl) rfl) (fun _ => rfl))) (w_or1 (y_lt (e_v (i := 1) rfl (by first | exact .inl rfl | exact .inr (.inl rfl) | exact .inr (.inr rfl)) (by decide) (by decide)) xi)))) (ss_cons (st_raise (ps_raiseLow_BadNumber rfl T_BadNumber hr.r (takes_of rfl rfl rfl rfl) (as_cons (e_v (i := 1) rfl (by first | exact .inl rfl | exact .inr (.inl rfl) | exact .inr (.inr rfl)) (by decide) (by decide)) as_nil rfl))) ss_nil) ss_nil) ss_nil))
def b_nth : List ST := [.expr (.call 0 [.v 0, .v 1]), .ret (.call 1 [.v 0, .v 1])]
def g_nth : Ctx := ⟨[f_need_nth, f_nth_least], [], [], [], []⟩
def f_nth : Fn := ⟨2, none, semB g_nth 2 none b_nth⟩
theorem cl_nth_0 {a0 a1 : IR} {env : Env} : ev g_nth (.call 0 [a0, a1]) env = (evs g_nth [a0, a1] env).bind fun ds e1 => runF e1 (f_need_nth.sem ds) := ev_call rfl rfl rfl
theorem cl_nth_1 {a0 a1 : IR} {env : Env} : ev g_nth (.call 1 [a0, a1]) env = (evs g_nth [a0, a1] env).bind fun ds e1 => runF e1 (f_nth_least.sem ds) := ev_call rfl rfl rfl
theorem sc_nth : FnScope ["moments", "n"] ["moments", "n"] (defScope (top 24)) := ⟨rfl, rfl, rfl, by decide +kernel, rfl, by decide +kernel, by decide +kernel⟩
theorem ok_nth {f : Addr} {fd : FuncData} (F : Fun K "nth" "nth" (top 24) f fd) (F_need_nth : FnF P w K mg base 5 "need_nth" f_need_nth) (F_nth_least : FnF P w K mg base 1 "nth_least" f_nth_least) :
    FnOk P w K mg base (L2.CX P w) 6 f fd ["moments", "n"] (spF K 2 none (semB g_nth 2 none b_nth)) :=
  have S := sc_nth
  fn_body F S (by decide) fun cdv A outer s H E hr =>
    (ss_cons (st_expr (e_call F_need_nth rfl (hr.mono (by decide)) (takes_of rfl rfl rfl rfl) rfl (aa_cons (e_v (i := 0) rfl (by first | exact .inl rfl | exact .inr (.inl rfl) | exact .inr (.inr rfl)) (by decide) (by decide)) (aa_cons (e_v (i := 1) rfl (by first | exact .inl rfl | exact .inr (.inl rfl) | exact .inr (.inr rfl)) (by decide) (by decide)) aa_nil rfl) rfl) rfl) rfl) (ss_cons (st_ret (e_call F_nth_least rfl (hr.mono (by decide)) (takes_of rfl rfl rfl rfl) rfl (aa_cons (e_v (i := 0) rfl (by first | exact .inl rfl | exact .inr (.inl rfl) | exact .inr (.inr rfl)) (by decide) (by decide)) (aa_cons (e_v (i := 1) rfl (by first | exact .inl rfl | exact .inr (.inl rfl) | exact .inr (.inr rfl)) (by decide) (by decide)) aa_nil rfl) rfl) rfl)) ss_nil))
def b_need_quorum : List ST := [.if_ (.not_ (.call 0 [.v 0, .c (.int 1), .blt .len [.v 1]])) [.raise "BadNumber" "number" (.v 0)] []]
def g_need_quorum : Ctx := ⟨[f_is_between], [], [], [], []⟩
def f_need_quorum : Fn := ⟨2, none, semB g_need_quorum 2 none b_need_quorum⟩
theorem cl_need_quorum_0 {a0 a1 a2 : IR} {env : Env} : ev g_need_quorum (.call 0 [a0, a1, a2]) env = (evs g_need_quorum [a0, a1, a2] env).bind fun ds e1 => runF e1 (f_is_between.sem ds) := ev_call rfl rfl rfl
theorem sc_need_quorum : FnScope ["quorum", "arrivals"] ["quorum", "arrivals"] (defScope (top 26)) := ⟨rfl, rfl, rfl, by decide +kernel, rfl, by decide +kernel, by decide +kernel⟩
theorem ok_need_quorum {f : Addr} {fd : FuncData} (F : Fun K "need_quorum" "need_quorum" (top 26) f fd) {I_BadNumber : Addr} (T_BadNumber : PySem.ErrBadNumber.LowTxt K mg (clsAt K "BadNumber") I_BadNumber) (F_is_between : FnF P w K mg base 2 "is_between" f_is_between) (z_len : mg "len" = none) :
    FnOk P w K mg base (L2.CX P w) 3 f fd ["quorum", "arrivals"] (spF K 2 none (semB g_need_quorum 2 none b_need_quorum)) :=
  have S := sc_need_quorum
  fn_body F S (by decide) fun cdv A outer s H E hr =>
    (ss_cons (st_if (t_not (t_truth (e_call F_is_between rfl (hr.mono (by decide)) (takes_of rfl rfl rfl rfl) rfl (aa_cons (e_v (i := 0) rfl (by first | exact .inl rfl | exact .inr (.inl rfl) | exact .inr (.inr rfl)) (by decide) (by decide)) (aa_cons xi (aa_cons (b_len z_len rfl (e_v (i := 1) rfl (by first | exact .inl rfl | exact .inr (.inl rfl) | exact .inr (.inr rfl)) (by decide) (by decide)) rfl) aa_nil rfl) rfl) rfl) rfl) (fun _ => rfl))) (ss_cons (st_raise (ps_raiseLow_BadNumber rfl T_BadNumber hr.r (takes_of rfl rfl rfl rfl) (as_cons (e_v (i := 0) rfl (by first | exact .inl rfl | exact .inr (.inl rfl) | exact .inr (.inr rfl)) (by decide) (by decide)) as_nil rfl))) ss_nil) ss_nil) ss_nil)
def b_need_lengths : List ST := [.if_ (.or_ (.not_ (.call 0 [.v 0])) (.or_ (.cmp .ne (.blt .len [.v 0]) (.v 1)) (.not_ (.blt .all [.lc (.name 2) (.seq (.v 0)) none (.call 1 [.v 2]) [2]])))) [.raise "BadPart" "part" (.c (.str "lengths"))] []]
def g_need_lengths : Ctx := ⟨[f_is_listed, f_is_count], [], [], [], []⟩
def f_need_lengths : Fn := ⟨2, none, semB g_need_lengths 3 none b_need_lengths⟩
theorem cl_need_lengths_0 {a0 : IR} {env : Env} : ev g_need_lengths (.call 0 [a0]) env = (evs g_need_lengths [a0] env).bind fun ds e1 => runF e1 (f_is_listed.sem ds) := ev_call rfl rfl rfl
theorem cl_need_lengths_1 {a0 : IR} {env : Env} : ev g_need_lengths (.call 1 [a0]) env = (evs g_need_lengths [a0] env).bind fun ds e1 => runF e1 (f_is_count.sem ds) := ev_call rfl rfl rfl
theorem sc_need_lengths : FnScope ["lengths", "many", "n"] ["lengths", "many"] (defScope (top 27)) := ⟨rfl, rfl, rfl, by decide +kernel, rfl, by decide +kernel, by decide +kernel⟩
theorem ok_need_lengths {f : Addr} {fd : FuncData} (F : Fun K "need_lengths" "need_lengths" (top 27) f fd) {I_BadPart : Addr} (T_BadPart : PySem.ErrBadPart.LowTxt K mg (clsAt K "BadPart") I_BadPart) (F_is_listed : FnF P w K mg base 1 "is_listed" f_is_listed) (F_is_count : FnF P w K mg base 2 "is_count" f_is_count) (z_len : mg "len" = none) (z_all : mg "all" = none) :
    FnOk P w K mg base (L2.CX P w) 3 f fd ["lengths", "many"] (spF K 2 none (semB g_need_lengths 3 none b_need_lengths)) :=
  have S := sc_need_lengths
  fn_body F S (by decide) fun cdv A outer s H E hr =>
    (ss_cons (st_if (PW.pt (w_or (t_not (t_truth (e_call F_is_listed rfl (hr.mono (by decide)) (takes_of rfl rfl rfl rfl) rfl (aa_cons (e_v (i := 0) rfl (by first | exact .inl rfl | exact .inr (.inl rfl) | exact .inr (.inr rfl)) (by decide) (by decide)) aa_nil rfl) rfl) (fun _ => rfl))) (w_or (y_ne (hu64 hr) (b_len z_len rfl (e_v (i := 0) rfl (by first | exact .inl rfl | exact .inr (.inl rfl) | exact .inr (.inr rfl)) (by decide) (by decide)) rfl) (e_v (i := 1) rfl (by first | exact .inl rfl | exact .inr (.inl rfl) | exact .inr (.inr rfl)) (by decide) (by decide))) (w_or1 (t_not (t_truth (b_all rfl z_all rfl (e_lc (own := [("n", 2)]) rfl S.nd (i_seq (e_v (i := 0) rfl (by first | exact .inl rfl | exact .inr (.inl rfl) | exact .inr (.inr rfl)) (by decide) (by decide))) (blkOk_by (N := ["lengths", "many", "n"]) (sc := defScope (top 27)) (by decide +kernel)) (fun _ _ _ _ _ => (pg_name (i := 2) S.nd rfl (by first | exact .inl rfl | exact .inr rfl) (by first | exact .inl rfl | exact .inr rfl))) (fun _ _ _ _ _ => pts_nil) (fun _ _ _ _ _ => (e_call F_is_count rfl (hr.mono (by decide)) takes0 rfl (aa_cons (e_v (i := 2) rfl (by first | exact .inl rfl | exact .inr (.inl rfl) | exact .inr (.inr rfl)) (by decide) (by decide)) aa_nil rfl) rfl)) (fun _ => rfl)) rfl) (fun _ => rfl))))))) (ss_cons (st_raise (ps_raiseLow_BadPart rfl T_BadPart hr.r (takes_of rfl rfl rfl rfl) (as_cons xs as_nil rfl))) ss_nil) ss_nil) ss_nil)
def b_need_notices : List ST := [.if_ (.or_ (.not_ (.call 0 [.v 0])) (.cmp .ne (.blt .len [.v 0]) (.v 1))) [.raise "BadPart" "part" (.c (.str "notices"))] [], .if_ (.not_ (.blt .all [.lc (.name 2) (.seq (.v 0)) none (.or_ (.cmp .is_ (.v 2) (.c .non)) (.call 1 [.v 2])) [2]])) [.raise "BadPart" "part" (.c (.str "notices"))] []]
def g_need_notices : Ctx := ⟨[f_is_listed, f_is_count], [], [], [], []⟩
def f_need_notices : Fn := ⟨2, none, semB g_need_notices 3 none b_need_notices⟩
theorem cl_need_notices_0 {a0 : IR} {env : Env} : ev g_need_notices (.call 0 [a0]) env = (evs g_need_notices [a0] env).bind fun ds e1 => runF e1 (f_is_listed.sem ds) := ev_call rfl rfl rfl
theorem cl_need_notices_1 {a0 : IR} {env : Env} : ev g_need_notices (.call 1 [a0]) env = (evs g_need_notices [a0] env).bind fun ds e1 => runF e1 (f_is_count.sem ds) := ev_call rfl rfl rfl
theorem sc_need_notices : FnScope ["notices", "many", "notice"] ["notices", "many"] (defScope (top 28)) := ⟨rfl, rfl, rfl, by decide +kernel, rfl, by decide +kernel, by decide +kernel⟩
theorem ok_need_notices {f : Addr} {fd : FuncData} (F : Fun K "need_notices" "need_notices" (top 28) f fd) {I_BadPart : Addr} (T_BadPart : PySem.ErrBadPart.LowTxt K mg (clsAt K "BadPart") I_BadPart) (F_is_listed : FnF P w K mg base 1 "is_listed" f_is_listed) (F_is_count : FnF P w K mg base 2 "is_count" f_is_count) (z_len : mg "len" = none) (z_all : mg "all" = none) :
    FnOk P w K mg base (L2.CX P w) 3 f fd ["notices", "many"] (spF K 2 none (semB g_need_notices 3 none b_need_notices)) :=
  have S := sc_need_notices
  fn_body F S (by decide) fun cdv A outer s H E hr =>
    (ss_cons (st_if (PW.pt (w_or (t_not (t_truth (e_call F_is_listed rfl (hr.mono (by decide)) (takes_of rfl rfl rfl rfl) rfl (aa_cons (e_v (i := 0) rfl (by first | exact .inl rfl | exact .inr (.inl rfl) | exact .inr (.inr rfl)) (by decide) (by decide)) aa_nil rfl) rfl) (fun _ => rfl))) (w_or1 (y_ne (hu64 hr) (b_len z_len rfl (e_v (i := 0) rfl (by first | exact .inl rfl | exact .inr (.inl rfl) | exact .inr (.inr rfl)) (by decide) (by decide)) rfl) (e_v (i := 1) rfl (by first | exact .inl rfl | exact .inr (.inl rfl) | exact .inr (.inr rfl)) (by decide) (by decide)))))) (ss_cons (st_raise (ps_raiseLow_BadPart rfl T_BadPart hr.r (takes_of rfl rfl rfl rfl) (as_cons xs as_nil rfl))) ss_nil) ss_nil) (ss_cons (st_if (t_not (t_truth (b_all rfl z_all rfl (e_lc (own := [("notice", 2)]) rfl S.nd (i_seq (e_v (i := 0) rfl (by first | exact .inl rfl | exact .inr (.inl rfl) | exact .inr (.inr rfl)) (by decide) (by decide))) (blkOk_by (N := ["notices", "many", "notice"]) (sc := defScope (top 28)) (by decide +kernel)) (fun _ _ _ _ _ => (pg_name (i := 2) S.nd rfl (by first | exact .inl rfl | exact .inr rfl) (by first | exact .inl rfl | exact .inr rfl))) (fun _ _ _ _ _ => pts_nil) (fun _ _ _ _ _ => (e_or (x_is (e_v (i := 2) rfl (by first | exact .inl rfl | exact .inr (.inl rfl) | exact .inr (.inr rfl)) (by decide) (by decide)) xn) (pe_one (e_call F_is_count rfl (hr.mono (by decide)) takes0 rfl (aa_cons (e_v (i := 2) rfl (by first | exact .inl rfl | exact .inr (.inl rfl) | exact .inr (.inr rfl)) (by decide) (by decide)) aa_nil rfl) rfl)))) (fun _ => rfl)) rfl) (fun _ => rfl))) (ss_cons (st_raise (ps_raiseLow_BadPart rfl T_BadPart hr.r (takes_of rfl rfl rfl rfl) (as_cons xs as_nil rfl))) ss_nil) ss_nil) ss_nil))
def b_meeting_begin : List ST := [.expr (.call 0 [.v 0]), .expr (.call 1 [.c (.str "arrivals"), .v 1]), .expr (.call 2 [.v 2, .v 1]), .ret (.call 3 [.lst [.v 0, .call 4 [.v 1, .v 2]]])]
def g_meeting_begin : Ctx := ⟨[f_need_count, f_need_minutes, f_need_quorum, f_greatest, f_nth], [], [], [], []⟩
def f_meeting_begin : Fn := ⟨3, none, semB g_meeting_begin 3 none b_meeting_begin⟩
theorem cl_meeting_begin_0 {a0 : IR} {env : Env} : ev g_meeting_begin (.call 0 [a0]) env = (evs g_meeting_begin [a0] env).bind fun ds e1 => runF e1 (f_need_count.sem ds) := ev_call rfl rfl rfl
theorem cl_meeting_begin_1 {a0 a1 : IR} {env : Env} : ev g_meeting_begin (.call 1 [a0, a1]) env = (evs g_meeting_begin [a0, a1] env).bind fun ds e1 => runF e1 (f_need_minutes.sem ds) := ev_call rfl rfl rfl
theorem cl_meeting_begin_2 {a0 a1 : IR} {env : Env} : ev g_meeting_begin (.call 2 [a0, a1]) env = (evs g_meeting_begin [a0, a1] env).bind fun ds e1 => runF e1 (f_need_quorum.sem ds) := ev_call rfl rfl rfl
theorem cl_meeting_begin_3 {a0 : IR} {env : Env} : ev g_meeting_begin (.call 3 [a0]) env = (evs g_meeting_begin [a0] env).bind fun ds e1 => runF e1 (f_greatest.sem ds) := ev_call rfl rfl rfl
theorem cl_meeting_begin_4 {a0 a1 : IR} {env : Env} : ev g_meeting_begin (.call 4 [a0, a1]) env = (evs g_meeting_begin [a0, a1] env).bind fun ds e1 => runF e1 (f_nth.sem ds) := ev_call rfl rfl rfl
theorem sc_meeting_begin : FnScope ["opens", "arrivals", "quorum"] ["opens", "arrivals", "quorum"] (defScope (top 29)) := ⟨rfl, rfl, rfl, by decide +kernel, rfl, by decide +kernel, by decide +kernel⟩
theorem ok_meeting_begin {f : Addr} {fd : FuncData} (F : Fun K "meeting_begin" "meeting_begin" (top 29) f fd) (F_need_count : FnF P w K mg base 3 "need_count" f_need_count) (F_need_minutes : FnF P w K mg base 4 "need_minutes" f_need_minutes) (F_need_quorum : FnF P w K mg base 3 "need_quorum" f_need_quorum) (F_greatest : FnF P w K mg base 5 "greatest" f_greatest) (F_nth : FnF P w K mg base 6 "nth" f_nth) :
    FnOk P w K mg base (L2.CX P w) 7 f fd ["opens", "arrivals", "quorum"] (spF K 3 none (semB g_meeting_begin 3 none b_meeting_begin)) :=
  have S := sc_meeting_begin
  fn_body F S (by decide) fun cdv A outer s H E hr =>
    (ss_cons (st_expr (e_call F_need_count rfl (hr.mono (by decide)) (takes_of rfl rfl rfl rfl) rfl (aa_cons (e_v (i := 0) rfl (by first | exact .inl rfl | exact .inr (.inl rfl) | exact .inr (.inr rfl)) (by decide) (by decide)) aa_nil rfl) rfl) rfl) (ss_cons (st_expr (e_call F_need_minutes rfl (hr.mono (by decide)) (takes_of rfl rfl rfl rfl) rfl (aa_cons xs (aa_cons (e_v (i := 1) rfl (by first | exact .inl rfl | exact .inr (.inl rfl) | exact .inr (.inr rfl)) (by decide) (by decide)) aa_nil rfl) rfl) rfl) rfl) (ss_cons (st_expr (e_call F_need_quorum rfl (hr.mono (by decide)) (takes_of rfl rfl rfl rfl) rfl (aa_cons (e_v (i := 2) rfl (by first | exact .inl rfl | exact .inr (.inl rfl) | exact .inr (.inr rfl)) (by decide) (by decide)) (aa_cons (e_v (i := 1) rfl (by first | exact .inl rfl | exact .inr (.inl rfl) | exact .inr (.inr rfl)) (by decide) (by decide)) aa_nil rfl) rfl) rfl) rfl) (ss_cons (st_ret (e_call F_greatest rfl (hr.mono (by decide)) (takes_of rfl rfl rfl rfl) rfl (aa_cons (e_lst (as_cons (e_v (i := 0) rfl (by first | exact .inl rfl | exact .inr (.inl rfl) | exact .inr (.inr rfl)) (by decide) (by decide)) (as_cons (e_call F_nth rfl (hr.mono (by decide)) (takes_of rfl rfl rfl rfl) rfl (aa_cons (e_v (i := 1) rfl (by first | exact .inl rfl | exact .inr (.inl rfl) | exact .inr (.inr rfl)) (by decide) (by decide)) (aa_cons (e_v (i := 2) rfl (by first | exact .inl rfl | exact .inr (.inl rfl) | exact .inr (.inr rfl)) (by decide) (by decide)) aa_nil rfl) rfl) rfl) as_nil rfl) rfl)) aa_nil rfl) rfl)) ss_nil))))
def b_meeting_end : List ST := [.expr (.call 0 [.v 0]), .expr (.call 1 [.v 1]), .expr (.call 0 [.v 2]), .ret (.call 2 [.lst [.call 3 [.v 0, .v 1], .v 2]])]
def g_meeting_end : Ctx := ⟨[f_need_minute, f_need_count, f_greatest, f_later_by], [], [], [], []⟩
def f_meeting_end : Fn := ⟨3, none, semB g_meeting_end 3 none b_meeting_end⟩
theorem cl_meeting_end_0 {a0 : IR} {env : Env} : ev g_meeting_end (.call 0 [a0]) env = (evs g_meeting_end [a0] env).bind fun ds e1 => runF e1 (f_need_minute.sem ds) := ev_call rfl rfl rfl
theorem cl_meeting_end_1 {a0 : IR} {env : Env} : ev g_meeting_end (.call 1 [a0]) env = (evs g_meeting_end [a0] env).bind fun ds e1 => runF e1 (f_need_count.sem ds) := ev_call rfl rfl rfl
theorem cl_meeting_end_2 {a0 : IR} {env : Env} : ev g_meeting_end (.call 2 [a0]) env = (evs g_meeting_end [a0] env).bind fun ds e1 => runF e1 (f_greatest.sem ds) := ev_call rfl rfl rfl
theorem cl_meeting_end_3 {a0 a1 : IR} {env : Env} : ev g_meeting_end (.call 3 [a0, a1]) env = (evs g_meeting_end [a0, a1] env).bind fun ds e1 => runF e1 (f_later_by.sem ds) := ev_call rfl rfl rfl
theorem sc_meeting_end : FnScope ["begin", "length", "arrival"] ["begin", "length", "arrival"] (defScope (top 30)) := ⟨rfl, rfl, rfl, by decide +kernel, rfl, by decide +kernel, by decide +kernel⟩
theorem ok_meeting_end {f : Addr} {fd : FuncData} (F : Fun K "meeting_end" "meeting_end" (top 30) f fd) (F_need_minute : FnF P w K mg base 4 "need_minute" f_need_minute) (F_need_count : FnF P w K mg base 3 "need_count" f_need_count) (F_greatest : FnF P w K mg base 5 "greatest" f_greatest) (F_later_by : FnF P w K mg base 5 "later_by" f_later_by) :
    FnOk P w K mg base (L2.CX P w) 6 f fd ["begin", "length", "arrival"] (spF K 3 none (semB g_meeting_end 3 none b_meeting_end)) :=
  have S := sc_meeting_end
  fn_body F S (by decide) fun cdv A outer s H E hr =>
    (ss_cons (st_expr (e_call F_need_minute rfl (hr.mono (by decide)) (takes_of rfl rfl rfl rfl) rfl (aa_cons (e_v (i := 0) rfl (by first | exact .inl rfl | exact .inr (.inl rfl) | exact .inr (.inr rfl)) (by decide) (by decide)) aa_nil rfl) rfl) rfl) (ss_cons (st_expr (e_call F_need_count rfl (hr.mono (by decide)) (takes_of rfl rfl rfl rfl) rfl (aa_cons (e_v (i := 1) rfl (by first | exact .inl rfl | exact .inr (.inl rfl) | exact .inr (.inr rfl)) (by decide) (by decide)) aa_nil rfl) rfl) rfl) (ss_cons (st_expr (e_call F_need_minute rfl (hr.mono (by decide)) (takes_of rfl rfl rfl rfl) rfl (aa_cons (e_v (i := 2) rfl (by first | exact .inl rfl | exact .inr (.inl rfl) | exact .inr (.inr rfl)) (by decide) (by decide)) aa_nil rfl) rfl) rfl) (ss_cons (st_ret (e_call F_greatest rfl (hr.mono (by decide)) (takes_of rfl rfl rfl rfl) rfl (aa_cons (e_lst (as_cons (e_call F_later_by rfl (hr.mono (by decide)) (takes_of rfl rfl rfl rfl) rfl (aa_cons (e_v (i := 0) rfl (by first | exact .inl rfl | exact .inr (.inl rfl) | exact .inr (.inr rfl)) (by decide) (by decide)) (aa_cons (e_v (i := 1) rfl (by first | exact .inl rfl | exact .inr (.inl rfl) | exact .inr (.inr rfl)) (by decide) (by decide)) aa_nil rfl) rfl) rfl) (as_cons (e_v (i := 2) rfl (by first | exact .inl rfl | exact .inr (.inl rfl) | exact .inr (.inr rfl)) (by decide) (by decide)) as_nil rfl) rfl)) aa_nil rfl) rfl)) ss_nil))))
def b_meeting_row : List ST := [.expr (.call 0 [.v 0]), .expr (.call 0 [.v 1]), .asg (.name 4) (.call 1 [.v 0, .v 3, .v 2]), .ret (.lc (.name 5) (.seq (.v 3)) none (.tup [.v 4, .call 2 [.v 4, .v 1, .v 5]]) [5])]
def g_meeting_row : Ctx := ⟨[f_need_count, f_meeting_begin, f_meeting_end], [], [], [], []⟩
def f_meeting_row : Fn := ⟨4, none, semB g_meeting_row 6 none b_meeting_row⟩
theorem cl_meeting_row_0 {a0 : IR} {env : Env} : ev g_meeting_row (.call 0 [a0]) env = (evs g_meeting_row [a0] env).bind fun ds e1 => runF e1 (f_need_count.sem ds) := ev_call rfl rfl rfl
theorem cl_meeting_row_1 {a0 a1 a2 : IR} {env : Env} : ev g_meeting_row (.call 1 [a0, a1, a2]) env = (evs g_meeting_row [a0, a1, a2] env).bind fun ds e1 => runF e1 (f_meeting_begin.sem ds) := ev_call rfl rfl rfl
theorem cl_meeting_row_2 {a0 a1 a2 : IR} {env : Env} : ev g_meeting_row (.call 2 [a0, a1, a2]) env = (evs g_meeting_row [a0, a1, a2] env).bind fun ds e1 => runF e1 (f_meeting_end.sem ds) := ev_call rfl rfl rfl
theorem sc_meeting_row : FnScope ["opens", "length", "quorum", "arrivals", "begin", "arrival"] ["opens", "length", "quorum", "arrivals"] (defScope (top 31)) := ⟨rfl, rfl, rfl, by decide +kernel, rfl, by decide +kernel, by decide +kernel⟩
theorem ok_meeting_row {f : Addr} {fd : FuncData} (F : Fun K "meeting_row" "meeting_row" (top 31) f fd) (F_need_count : FnF P w K mg base 3 "need_count" f_need_count) (F_meeting_begin : FnF P w K mg base 7 "meeting_begin" f_meeting_begin) (F_meeting_end : FnF P w K mg base 6 "meeting_end" f_meeting_end) :
    FnOk P w K mg base (L2.CX P w) 8 f fd ["opens", "length", "quorum", "arrivals"] (spF K 4 none (semB g_meeting_row 6 none b_meeting_row)) :=
  have S := sc_meeting_row
  fn_body F S (by decide) fun cdv A outer s H E hr =>
    (ss_cons (st_expr (e_call F_need_count rfl (hr.mono (by decide)) (takes_of rfl rfl rfl rfl) rfl (aa_cons (e_v (i := 0) rfl (by first | exact .inl rfl | exact .inr (.inl rfl) | exact .inr (.inr rfl)) (by decide) (by decide)) aa_nil rfl) rfl) rfl) (ss_cons (st_expr (e_call F_need_count rfl (hr.mono (by decide)) (takes_of rfl rfl rfl rfl) rfl (aa_cons (e_v (i := 1) rfl (by first | exact .inl rfl | exact .inr (.inl rfl) | exact .inr (.inr rfl)) (by decide) (by decide)) aa_nil rfl) rfl) rfl) (ss_cons (st_asg (ps_set (i := 4) S.nd rfl (by first | exact .inl rfl | exact .inr rfl) (e_call F_meeting_begin rfl (hr.mono (by decide)) (takes_of rfl rfl rfl rfl) rfl (aa_cons (e_v (i := 0) rfl (by first | exact .inl rfl | exact .inr (.inl rfl) | exact .inr (.inr rfl)) (by decide) (by decide)) (aa_cons (e_v (i := 3) rfl (by first | exact .inl rfl | exact .inr (.inl rfl) | exact .inr (.inr rfl)) (by decide) (by decide)) (aa_cons (e_v (i := 2) rfl (by first | exact .inl rfl | exact .inr (.inl rfl) | exact .inr (.inr rfl)) (by decide) (by decide)) aa_nil rfl) rfl) rfl) rfl) rfl (by first | exact .inl rfl | exact .inr rfl))) (ss_cons (st_ret (e_lc (own := [("arrival", 5)]) rfl S.nd (i_seq (e_v (i := 3) rfl (by first | exact .inl rfl | exact .inr (.inl rfl) | exact .inr (.inr rfl)) (by decide) (by decide))) (blkOk_by (N := ["opens", "length", "quorum", "arrivals", "begin", "arrival"]) (sc := defScope (top 31)) (by decide +kernel)) (fun _ _ _ _ _ => (pg_name (i := 5) S.nd rfl (by first | exact .inl rfl | exact .inr rfl) (by first | exact .inl rfl | exact .inr rfl))) (fun _ _ _ _ _ => pts_nil) (fun _ _ _ _ _ => (e_tup (as_cons (e_v (i := 4) rfl (by first | exact .inl rfl | exact .inr (.inl rfl) | exact .inr (.inr rfl)) (by decide) (by decide)) (as_cons (e_call F_meeting_end rfl (hr.mono (by decide)) takes0 rfl (aa_cons (e_v (i := 4) rfl (by first | exact .inl rfl | exact .inr (.inl rfl) | exact .inr (.inr rfl)) (by decide) (by decide)) (aa_cons (e_v (i := 1) rfl (by first | exact .inl rfl | exact .inr (.inl rfl) | exact .inr (.inr rfl)) (by decide) (by decide)) (aa_cons (e_v (i := 5) rfl (by first | exact .inl rfl | exact .inr (.inl rfl) | exact .inr (.inr rfl)) (by decide) (by decide)) aa_nil rfl) rfl) rfl) rfl) as_nil rfl) rfl))) (fun _ => rfl))) ss_nil))))
def b_room_begin : List ST := [.expr (.call 0 [.v 0]), .expr (.call 0 [.v 1]), .expr (.call 1 [.v 2]), .ret (.call 2 [.lst [.v 0, .call 3 [.v 1, .v 2]]])]
def g_room_begin : Ctx := ⟨[f_need_minute, f_need_count, f_greatest, f_later_by], [], [], [], []⟩
def f_room_begin : Fn := ⟨3, none, semB g_room_begin 3 none b_room_begin⟩
theorem cl_room_begin_0 {a0 : IR} {env : Env} : ev g_room_begin (.call 0 [a0]) env = (evs g_room_begin [a0] env).bind fun ds e1 => runF e1 (f_need_minute.sem ds) := ev_call rfl rfl rfl
theorem cl_room_begin_1 {a0 : IR} {env : Env} : ev g_room_begin (.call 1 [a0]) env = (evs g_room_begin [a0] env).bind fun ds e1 => runF e1 (f_need_count.sem ds) := ev_call rfl rfl rfl
theorem cl_room_begin_2 {a0 : IR} {env : Env} : ev g_room_begin (.call 2 [a0]) env = (evs g_room_begin [a0] env).bind fun ds e1 => runF e1 (f_greatest.sem ds) := ev_call rfl rfl rfl
theorem cl_room_begin_3 {a0 a1 : IR} {env : Env} : ev g_room_begin (.call 3 [a0, a1]) env = (evs g_room_begin [a0, a1] env).bind fun ds e1 => runF e1 (f_later_by.sem ds) := ev_call rfl rfl rfl
theorem sc_room_begin : FnScope ["arrival", "end_ahead", "turn"] ["arrival", "end_ahead", "turn"] (defScope (top 32)) := ⟨rfl, rfl, rfl, by decide +kernel, rfl, by decide +kernel, by decide +kernel⟩
theorem ok_room_begin {f : Addr} {fd : FuncData} (F : Fun K "room_begin" "room_begin" (top 32) f fd) (F_need_minute : FnF P w K mg base 4 "need_minute" f_need_minute) (F_need_count : FnF P w K mg base 3 "need_count" f_need_count) (F_greatest : FnF P w K mg base 5 "greatest" f_greatest) (F_later_by : FnF P w K mg base 5 "later_by" f_later_by) :
    FnOk P w K mg base (L2.CX P w) 6 f fd ["arrival", "end_ahead", "turn"] (spF K 3 none (semB g_room_begin 3 none b_room_begin)) :=
  have S := sc_room_begin
  fn_body F S (by decide) fun cdv A outer s H E hr =>
    (ss_cons (st_expr (e_call F_need_minute rfl (hr.mono (by decide)) (takes_of rfl rfl rfl rfl) rfl (aa_cons (e_v (i := 0) rfl (by first | exact .inl rfl | exact .inr (.inl rfl) | exact .inr (.inr rfl)) (by decide) (by decide)) aa_nil rfl) rfl) rfl) (ss_cons (st_expr (e_call F_need_minute rfl (hr.mono (by decide)) (takes_of rfl rfl rfl rfl) rfl (aa_cons (e_v (i := 1) rfl (by first | exact .inl rfl | exact .inr (.inl rfl) | exact .inr (.inr rfl)) (by decide) (by decide)) aa_nil rfl) rfl) rfl) (ss_cons (st_expr (e_call F_need_count rfl (hr.mono (by decide)) (takes_of rfl rfl rfl rfl) rfl (aa_cons (e_v (i := 2) rfl (by first | exact .inl rfl | exact .inr (.inl rfl) | exact .inr (.inr rfl)) (by decide) (by decide)) aa_nil rfl) rfl) rfl) (ss_cons (st_ret (e_call F_greatest rfl (hr.mono (by decide)) (takes_of rfl rfl rfl rfl) rfl (aa_cons (e_lst (as_cons (e_v (i := 0) rfl (by first | exact .inl rfl | exact .inr (.inl rfl) | exact .inr (.inr rfl)) (by decide) (by decide)) (as_cons (e_call F_later_by rfl (hr.mono (by decide)) (takes_of rfl rfl rfl rfl) rfl (aa_cons (e_v (i := 1) rfl (by first | exact .inl rfl | exact .inr (.inl rfl) | exact .inr (.inr rfl)) (by decide) (by decide)) (aa_cons (e_v (i := 2) rfl (by first | exact .inl rfl | exact .inr (.inl rfl) | exact .inr (.inr rfl)) (by decide) (by decide)) aa_nil rfl) rfl) rfl) as_nil rfl) rfl)) aa_nil rfl) rfl)) ss_nil))))
def b_room_end : List ST := [.expr (.call 0 [.v 0]), .expr (.call 1 [.v 1]), .ret (.call 2 [.v 0, .v 1])]
def g_room_end : Ctx := ⟨[f_need_minute, f_need_count, f_later_by], [], [], [], []⟩
def f_room_end : Fn := ⟨2, none, semB g_room_end 2 none b_room_end⟩
theorem cl_room_end_0 {a0 : IR} {env : Env} : ev g_room_end (.call 0 [a0]) env = (evs g_room_end [a0] env).bind fun ds e1 => runF e1 (f_need_minute.sem ds) := ev_call rfl rfl rfl
theorem cl_room_end_1 {a0 : IR} {env : Env} : ev g_room_end (.call 1 [a0]) env = (evs g_room_end [a0] env).bind fun ds e1 => runF e1 (f_need_count.sem ds) := ev_call rfl rfl rfl
theorem cl_room_end_2 {a0 a1 : IR} {env : Env} : ev g_room_end (.call 2 [a0, a1]) env = (evs g_room_end [a0, a1] env).bind fun ds e1 => runF e1 (f_later_by.sem ds) := ev_call rfl rfl rfl
theorem sc_room_end : FnScope ["begin", "n"] ["begin", "n"] (defScope (top 33)) := ⟨rfl, rfl, rfl, by decide +kernel, rfl, by decide +kernel, by decide +kernel⟩
theorem ok_room_end {f : Addr} {fd : FuncData} (F : Fun K "room_end" "room_end" (top 33) f fd) (F_need_minute : FnF P w K mg base 4 "need_minute" f_need_minute) (F_need_count : FnF P w K mg base 3 "need_count" f_need_count) (F_later_by : FnF P w K mg base 5 "later_by" f_later_by) :
    FnOk P w K mg base (L2.CX P w) 6 f fd ["begin", "n"] (spF K 2 none (semB g_room_end 2 none b_room_end)) :=
  have S := sc_room_end
  fn_body F S (by decide) fun cdv A outer s H E hr =>
    (ss_cons (st_expr (e_call F_need_minute rfl (hr.mono (by decide)) (takes_of rfl rfl rfl rfl) rfl (aa_cons (e_v (i := 0) rfl (by first | exact .inl rfl | exact .inr (.inl rfl) | exact .inr (.inr rfl)) (by decide) (by decide)) aa_nil rfl) rfl) rfl) (ss_cons (st_expr (e_call F_need_count rfl (hr.mono (by decide)) (takes_of rfl rfl rfl rfl) rfl (aa_cons (e_v (i := 1) rfl (by first | exact .inl rfl | exact .inr (.inl rfl) | exact .inr (.inr rfl)) (by decide) (by decide)) aa_nil rfl) rfl) rfl) (ss_cons (st_ret (e_call F_later_by rfl (hr.mono (by decide)) (takes_of rfl rfl rfl rfl) rfl (aa_cons (e_v (i := 0) rfl (by first | exact .inl rfl | exact .inr (.inl rfl) | exact .inr (.inr rfl)) (by decide) (by decide)) (aa_cons (e_v (i := 1) rfl (by first | exact .inl rfl | exact .inr (.inl rfl) | exact .inr (.inr rfl)) (by decide) (by decide)) aa_nil rfl) rfl) rfl)) ss_nil)))
def b_guest_end : List ST := [.expr (.call 0 [.v 0]), .expr (.call 1 [.v 1]), .expr (.call 1 [.v 2]), .expr (.call 0 [.v 3]), .ret (.call 2 [.call 3 [.v 0, .v 1], .call 3 [.call 4 [.lst [.v 0, .v 3]], .v 2]])]
def g_guest_end : Ctx := ⟨[f_need_minute, f_need_count, f_lesser, f_later_by, f_greatest], [], [], [], []⟩
def f_guest_end : Fn := ⟨4, none, semB g_guest_end 4 none b_guest_end⟩
theorem cl_guest_end_0 {a0 : IR} {env : Env} : ev g_guest_end (.call 0 [a0]) env = (evs g_guest_end [a0] env).bind fun ds e1 => runF e1 (f_need_minute.sem ds) := ev_call rfl rfl rfl
theorem cl_guest_end_1 {a0 : IR} {env : Env} : ev g_guest_end (.call 1 [a0]) env = (evs g_guest_end [a0] env).bind fun ds e1 => runF e1 (f_need_count.sem ds) := ev_call rfl rfl rfl
theorem cl_guest_end_2 {a0 a1 : IR} {env : Env} : ev g_guest_end (.call 2 [a0, a1]) env = (evs g_guest_end [a0, a1] env).bind fun ds e1 => runF e1 (f_lesser.sem ds) := ev_call rfl rfl rfl
theorem cl_guest_end_3 {a0 a1 : IR} {env : Env} : ev g_guest_end (.call 3 [a0, a1]) env = (evs g_guest_end [a0, a1] env).bind fun ds e1 => runF e1 (f_later_by.sem ds) := ev_call rfl rfl rfl
theorem cl_guest_end_4 {a0 : IR} {env : Env} : ev g_guest_end (.call 4 [a0]) env = (evs g_guest_end [a0] env).bind fun ds e1 => runF e1 (f_greatest.sem ds) := ev_call rfl rfl rfl
theorem sc_guest_end : FnScope ["begin", "n", "notice", "behind"] ["begin", "n", "notice", "behind"] (defScope (top 34)) := ⟨rfl, rfl, rfl, by decide +kernel, rfl, by decide +kernel, by decide +kernel⟩
theorem ok_guest_end {f : Addr} {fd : FuncData} (F : Fun K "guest_end" "guest_end" (top 34) f fd) (F_need_minute : FnF P w K mg base 4 "need_minute" f_need_minute) (F_need_count : FnF P w K mg base 3 "need_count" f_need_count) (F_lesser : FnF P w K mg base 2 "lesser" f_lesser) (F_later_by : FnF P w K mg base 5 "later_by" f_later_by) (F_greatest : FnF P w K mg base 5 "greatest" f_greatest) :
    FnOk P w K mg base (L2.CX P w) 6 f fd ["begin", "n", "notice", "behind"] (spF K 4 none (semB g_guest_end 4 none b_guest_end)) :=
  have S := sc_guest_end
  fn_body F S (by decide) fun cdv A outer s H E hr =>
    (ss_cons (st_expr (e_call F_need_minute rfl (hr.mono (by decide)) (takes_of rfl rfl rfl rfl) rfl (aa_cons (e_v (i := 0) rfl (by first | exact .inl rfl | exact .inr (.inl rfl) | exact .inr (.inr rfl)) (by decide) (by decide)) aa_nil rfl) rfl) rfl) (ss_cons (st_expr (e_call F_need_count rfl (hr.mono (by decide)) (takes_of rfl rfl rfl rfl) rfl (aa_cons (e_v (i := 1) rfl (by first | exact .inl rfl | exact .inr (.inl rfl) | exact .inr (.inr rfl)) (by decide) (by decide)) aa_nil rfl) rfl) rfl) (ss_cons (st_expr (e_call F_need_count rfl (hr.mono (by decide)) (takes_of rfl rfl rfl rfl) rfl (aa_cons (e_v (i := 2) rfl (by first | exact .inl rfl | exact .inr (.inl rfl) | exact .inr (.inr rfl)) (by decide) (by decide)) aa_nil rfl) rfl) rfl) (ss_cons (st_expr (e_call F_need_minute rfl (hr.mono (by decide)) (takes_of rfl rfl rfl rfl) rfl (aa_cons (e_v (i := 3) rfl (by first | exact .inl rfl | exact .inr (.inl rfl) | exact .inr (.inr rfl)) (by decide) (by decide)) aa_nil rfl) rfl) rfl) (ss_cons (st_ret (e_call F_lesser rfl (hr.mono (by decide)) (takes_of rfl rfl rfl rfl) rfl (aa_cons (e_call F_later_by rfl (hr.mono (by decide)) (takes_of rfl rfl rfl rfl) rfl (aa_cons (e_v (i := 0) rfl (by first | exact .inl rfl | exact .inr (.inl rfl) | exact .inr (.inr rfl)) (by decide) (by decide)) (aa_cons (e_v (i := 1) rfl (by first | exact .inl rfl | exact .inr (.inl rfl) | exact .inr (.inr rfl)) (by decide) (by decide)) aa_nil rfl) rfl) rfl) (aa_cons (e_call F_later_by rfl (hr.mono (by decide)) (takes_of rfl rfl rfl rfl) rfl (aa_cons (e_call F_greatest rfl (hr.mono (by decide)) (takes_of rfl rfl rfl rfl) rfl (aa_cons (e_lst (as_cons (e_v (i := 0) rfl (by first | exact .inl rfl | exact .inr (.inl rfl) | exact .inr (.inr rfl)) (by decide) (by decide)) (as_cons (e_v (i := 3) rfl (by first | exact .inl rfl | exact .inr (.inl rfl) | exact .inr (.inr rfl)) (by decide) (by decide)) as_nil rfl) rfl)) aa_nil rfl) rfl) (aa_cons (e_v (i := 2) rfl (by first | exact .inl rfl | exact .inr (.inl rfl) | exact .inr (.inr rfl)) (by decide) (by decide)) aa_nil rfl) rfl) rfl) aa_nil rfl) rfl) rfl)) ss_nil)))))
def b_room_row : List ST := [.expr (.call 0 [.c (.str "arrivals"), .v 0]), .expr (.call 1 [.v 1, .blt .len [.v 0]]), .expr (.call 2 [.v 2]), .expr (.call 3 [.v 3, .blt .len [.v 0]]), .new 4 (.lst []), .for_ (.tup [5, 6]) (.enum (.v 0)) [.asg (.name 7) (.ite (.v 4) (.call 4 [.v 6, .ix (.ix (.v 4) (.neg (.c (.int 1)))) (.c (.int 1)), .v 2]) (.v 6)), .if_ (.or_ (.cmp .is_ (.ix (.v 3) (.v 5)) (.c .non)) (.cmp .eq (.bin .add (.v 5) (.c (.int 1))) (.blt .len [.v 0]))) [.asg (.name 8) (.call 5 [.v 7, .ix (.v 1) (.v 5)])] [.asg (.name 8) (.call 6 [.v 7, .ix (.v 1) (.v 5), .ix (.v 3) (.v 5), .ix (.v 0) (.bin .add (.v 5) (.c (.int 1)))])], .expr (.app 4 (.tup [.v 7, .v 8]))], .ret (.v 4)]
def g_room_row : Ctx := ⟨[f_need_minutes, f_need_lengths, f_need_count, f_need_notices, f_room_begin, f_room_end, f_guest_end], [], [], [], []⟩
def f_room_row : Fn := ⟨4, none, semB g_room_row 9 none b_room_row⟩
theorem cl_room_row_0 {a0 a1 : IR} {env : Env} : ev g_room_row (.call 0 [a0, a1]) env = (evs g_room_row [a0, a1] env).bind fun ds e1 => runF e1 (f_need_minutes.sem ds) := ev_call rfl rfl rfl
theorem cl_room_row_1 {a0 a1 : IR} {env : Env} : ev g_room_row (.call 1 [a0, a1]) env = (evs g_room_row [a0, a1] env).bind fun ds e1 => runF e1 (f_need_lengths.sem ds) := ev_call rfl rfl rfl
theorem cl_room_row_2 {a0 : IR} {env : Env} : ev g_room_row (.call 2 [a0]) env = (evs g_room_row [a0] env).bind fun ds e1 => runF e1 (f_need_count.sem ds) := ev_call rfl rfl rfl
theorem cl_room_row_3 {a0 a1 : IR} {env : Env} : ev g_room_row (.call 3 [a0, a1]) env = (evs g_room_row [a0, a1] env).bind fun ds e1 => runF e1 (f_need_notices.sem ds) := ev_call rfl rfl rfl
theorem cl_room_row_4 {a0 a1 a2 : IR} {env : Env} : ev g_room_row (.call 4 [a0, a1, a2]) env = (evs g_room_row [a0, a1, a2] env).bind fun ds e1 => runF e1 (f_room_begin.sem ds) := ev_call rfl rfl rfl
theorem cl_room_row_5 {a0 a1 : IR} {env : Env} : ev g_room_row (.call 5 [a0, a1]) env = (evs g_room_row [a0, a1] env).bind fun ds e1 => runF e1 (f_room_end.sem ds) := ev_call rfl rfl rfl
theorem cl_room_row_6 {a0 a1 a2 a3 : IR} {env : Env} : ev g_room_row (.call 6 [a0, a1, a2, a3]) env = (evs g_room_row [a0, a1, a2, a3] env).bind fun ds e1 => runF e1 (f_guest_end.sem ds) := ev_call rfl rfl rfl
theorem sc_room_row : FnScope ["arrivals", "lengths", "turn", "notices", "row", "place", "arrival", "begin", "end"] ["arrivals", "lengths", "turn", "notices"] (defScope (top 35)) := ⟨rfl, rfl, rfl, by decide +kernel, rfl, by decide +kernel, by decide +kernel⟩
theorem ok_room_row {f : Addr} {fd : FuncData} (F : Fun K "room_row" "room_row" (top 35) f fd) (F_need_minutes : FnF P w K mg base 4 "need_minutes" f_need_minutes) (F_need_lengths : FnF P w K mg base 3 "need_lengths" f_need_lengths) (F_need_count : FnF P w K mg base 3 "need_count" f_need_count) (F_need_notices : FnF P w K mg base 3 "need_notices" f_need_notices) (F_room_begin : FnF P w K mg base 6 "room_begin" f_room_begin) (F_room_end : FnF P w K mg base 6 "room_end" f_room_end) (F_guest_end : FnF P w K mg base 6 "guest_end" f_guest_end) (z_len : mg "len" = none) (z_enumerate : mg "enumerate" = none) :
    FnOk P w K mg base (L2.CX P w) 7 f fd ["arrivals", "lengths", "turn", "notices"] (spF K 4 none (semB g_room_row 9 none b_room_row)) :=
  have S := sc_room_row
  fn_body F S (by decide) fun cdv A outer s H E hr =>
    (ss_cons (st_expr (e_call F_need_minutes rfl (hr.mono (by decide)) (takes_of rfl rfl rfl rfl) rfl (aa_cons xs (aa_cons (e_v (i := 0) rfl (by first | exact .inl rfl | exact .inr (.inl rfl) | exact .inr (.inr rfl)) (by decide) (by decide)) aa_nil rfl) rfl) rfl) rfl) (ss_cons (st_expr (e_call F_need_lengths rfl (hr.mono (by decide)) (takes_of rfl rfl rfl rfl) rfl (aa_cons (e_v (i := 1) rfl (by first | exact .inl rfl | exact .inr (.inl rfl) | exact .inr (.inr rfl)) (by decide) (by decide)) (aa_cons (b_len z_len rfl (e_v (i := 0) rfl (by first | exact .inl rfl | exact .inr (.inl rfl) | exact .inr (.inr rfl)) (by decide) (by decide)) rfl) aa_nil rfl) rfl) rfl) rfl) (ss_cons (st_expr (e_call F_need_count rfl (hr.mono (by decide)) (takes_of rfl rfl rfl rfl) rfl (aa_cons (e_v (i := 2) rfl (by first | exact .inl rfl | exact .inr (.inl rfl) | exact .inr (.inr rfl)) (by decide) (by decide)) aa_nil rfl) rfl) rfl) (ss_cons (st_expr (e_call F_need_notices rfl (hr.mono (by decide)) (takes_of rfl rfl rfl rfl) rfl (aa_cons (e_v (i := 3) rfl (by first | exact .inl rfl | exact .inr (.inl rfl) | exact .inr (.inr rfl)) (by decide) (by decide)) (aa_cons (b_len z_len rfl (e_v (i := 0) rfl (by first | exact .inl rfl | exact .inr (.inl rfl) | exact .inr (.inr rfl)) (by decide) (by decide)) rfl) aa_nil rfl) rfl) rfl) rfl) (ss_cons (st_new (ps_set (i := 4) S.nd rfl (by first | exact .inl rfl | exact .inr rfl) (l_lst as_nil) rfl (by first | exact .inl rfl | exact .inr rfl))) (ss_cons (st_for (ps_for (passes_of rfl) rfl (i_enum rfl z_enumerate (e_v (i := 0) rfl (by first | exact .inl rfl | exact .inr (.inl rfl) | exact .inr (.inr rfl)) (by decide) (by decide)) rfl) (pg_tup rfl (pgs_cons (pg_name (i := 5) S.nd rfl (by first | exact .inl rfl | exact .inr rfl) (by first | exact .inl rfl | exact .inr rfl)) (pgs_cons (pg_name (i := 6) S.nd rfl (by first | exact .inl rfl | exact .inr rfl) (by first | exact .inl rfl | exact .inr rfl)) pgs_nil))) (ss_cons (st_asg (ps_set (i := 7) S.nd rfl (by first | exact .inl rfl | exact .inr rfl) (e_ite (t_truth (e_v (i := 4) rfl (by first | exact .inl rfl | exact .inr (.inl rfl) | exact .inr (.inr rfl)) (by decide) (by decide)) (fun _ => rfl)) (e_call F_room_begin rfl (hr.mono (by decide)) (takes_of rfl rfl rfl rfl) rfl (aa_cons (e_v (i := 6) rfl (by first | exact .inl rfl | exact .inr (.inl rfl) | exact .inr (.inr rfl)) (by decide) (by decide)) (aa_cons (e_ix (e_ix (e_v (i := 4) rfl (by first | exact .inl rfl | exact .inr (.inl rfl) | exact .inr (.inr rfl)) (by decide) (by decide)) (e_neg xi) (fun _ _ => rfl)) xi (fun _ _ => rfl)) (aa_cons (e_v (i := 2) rfl (by first | exact .inl rfl | exact .inr (.inl rfl) | exact .inr (.inr rfl)) (by decide) (by decide)) aa_nil rfl) rfl) rfl) rfl) (e_v (i := 6) rfl (by first | exact .inl rfl | exact .inr (.inl rfl) | exact .inr (.inr rfl)) (by decide) (by decide))) rfl (by first | exact .inl rfl | exact .inr rfl))) (ss_cons (st_if (PW.pt (w_or (y_is (e_ix (e_v (i := 3) rfl (by first | exact .inl rfl | exact .inr (.inl rfl) | exact .inr (.inr rfl)) (by decide) (by decide)) (e_v (i := 5) rfl (by first | exact .inl rfl | exact .inr (.inl rfl) | exact .inr (.inr rfl)) (by decide) (by decide)) (fun _ _ => rfl)) xn) (w_or1 (y_eq (hu64 hr) (x_add (e_v (i := 5) rfl (by first | exact .inl rfl | exact .inr (.inl rfl) | exact .inr (.inr rfl)) (by decide) (by decide)) xi) (b_len z_len rfl (e_v (i := 0) rfl (by first | exact .inl rfl | exact .inr (.inl rfl) | exact .inr (.inr rfl)) (by decide) (by decide)) rfl))))) (ss_cons (st_asg (ps_set (i := 8) S.nd rfl (by first | exact .inl rfl | exact .inr rfl) (e_call F_room_end rfl (hr.mono (by decide)) (takes_of rfl rfl rfl rfl) rfl (aa_cons (e_v (i := 7) rfl (by first | exact .inl rfl | exact .inr (.inl rfl) | exact .inr (.inr rfl)) (by decide) (by decide)) (aa_cons (e_ix (e_v (i := 1) rfl (by first | exact .inl rfl | exact .inr (.inl rfl) | exact .inr (.inr rfl)) (by decide) (by decide)) (e_v (i := 5) rfl (by first | exact .inl rfl | exact .inr (.inl rfl) | exact .inr (.inr rfl)) (by decide) (by decide)) (fun _ _ => rfl)) aa_nil rfl) rfl) rfl) rfl (by first | exact .inl rfl | exact .inr rfl))) ss_nil) (ss_cons (st_asg (ps_set (i := 8) S.nd rfl (by first | exact .inl rfl | exact .inr rfl) (e_call F_guest_end rfl (hr.mono (by decide)) (takes_of rfl rfl rfl rfl) rfl (aa_cons (e_v (i := 7) rfl (by first | exact .inl rfl | exact .inr (.inl rfl) | exact .inr (.inr rfl)) (by decide) (by decide)) (aa_cons (e_ix (e_v (i := 1) rfl (by first | exact .inl rfl | exact .inr (.inl rfl) | exact .inr (.inr rfl)) (by decide) (by decide)) (e_v (i := 5) rfl (by first | exact .inl rfl | exact .inr (.inl rfl) | exact .inr (.inr rfl)) (by decide) (by decide)) (fun _ _ => rfl)) (aa_cons (e_ix (e_v (i := 3) rfl (by first | exact .inl rfl | exact .inr (.inl rfl) | exact .inr (.inr rfl)) (by decide) (by decide)) (e_v (i := 5) rfl (by first | exact .inl rfl | exact .inr (.inl rfl) | exact .inr (.inr rfl)) (by decide) (by decide)) (fun _ _ => rfl)) (aa_cons (e_ix (e_v (i := 0) rfl (by first | exact .inl rfl | exact .inr (.inl rfl) | exact .inr (.inr rfl)) (by decide) (by decide)) (x_add (e_v (i := 5) rfl (by first | exact .inl rfl | exact .inr (.inl rfl) | exact .inr (.inr rfl)) (by decide) (by decide)) xi) (fun _ _ => rfl)) aa_nil rfl) rfl) rfl) rfl) rfl) rfl (by first | exact .inl rfl | exact .inr rfl))) ss_nil)) (ss_cons (st_expr (e_app (i := 4) rfl (by first | exact .inl rfl | exact .inr (.inl rfl) | exact .inr (.inr rfl)) (by decide) (by decide) (e_tup (as_cons (e_v (i := 7) rfl (by first | exact .inl rfl | exact .inr (.inl rfl) | exact .inr (.inr rfl)) (by decide) (by decide)) (as_cons (e_v (i := 8) rfl (by first | exact .inl rfl | exact .inr (.inl rfl) | exact .inr (.inr rfl)) (by decide) (by decide)) as_nil rfl) rfl)) rfl (by rfl) rfl) rfl) ss_nil))) (fun _ => rfl))) (ss_cons (st_ret (e_v (i := 4) rfl (by first | exact .inl rfl | exact .inr (.inl rfl) | exact .inr (.inr rfl)) (by decide) (by decide))) ss_nil)))))))
def b__law_pool : List ST := [.asg (.name 2) (.c (.int 0)), .if_ (.cmp .lt (.v 1) (.blt .len [.v 0])) [.asg (.name 2) (.ix (.v 0) (.v 1))] [], .asg (.name 3) (.blt .max2 [.blt .int [.v 2], .blt .int [.bin .sub (.neg (.c (.int 1))) (.v 2)]]), .asg (.name 4) (.bin .mod (.blt .int [.bin .mul (.bin .add (.bin .add (.bin .add (.bin .mod (.blt .int [.v 3]) (.c (.int 2147483629))) (.bin .mul (.bin .mul (.c (.int 7919)) (.v 1)) (.v 1))) (.bin .mul (.c (.int 31)) (.v 1))) (.c (.int 17))) (.c (.int 48271))]) (.c (.int 2147483647))), .retl (.lst [.bin .mul (.v 3) (.blt .int [.cmp .ge (.v 3) (.bin .pow (.c (.int 10)) (.c (.int 18)))]), .v 4])]
def g__law_pool : Ctx := ⟨[], [], [], [], []⟩
def f__law_pool : Fn := ⟨2, none, semBF g__law_pool 5 b__law_pool⟩
theorem sc__law_pool : FnScope ["_law_script", "_law_k", "_law_cell", "_law_big", "_law_mixed"] ["_law_script", "_law_k"] (defScope (top 37)) := ⟨rfl, rfl, rfl, by decide +kernel, rfl, by decide +kernel, by decide +kernel⟩
theorem ok__law_pool {f : Addr} {fd : FuncData} (F : Fun K "_law_pool" "_law_pool" (top 37) f fd) (z_len : mg "len" = none) (z_max : mg "max" = none) (z_int : mg "int" = none) :
    FnOk P w K mg base (L2.CX P w) 1 f fd ["_law_script", "_law_k"] (spFr K 2 (semBF g__law_pool 5 b__law_pool)) :=
  have S := sc__law_pool
  fn_bodyF F S (by decide) fun cdv A outer s H E hr =>
    (ss_cons (st_asg (ps_set (i := 2) S.nd rfl (by first | exact .inl rfl | exact .inr rfl) xi rfl (by first | exact .inl rfl | exact .inr rfl))) (ss_cons (st_if (y_lt (e_v (i := 1) rfl (by first | exact .inl rfl | exact .inr (.inl rfl) | exact .inr (.inr rfl)) (by decide) (by decide)) (b_len z_len rfl (e_v (i := 0) rfl (by first | exact .inl rfl | exact .inr (.inl rfl) | exact .inr (.inr rfl)) (by decide) (by decide)) rfl)) (ss_cons (st_asg (ps_set (i := 2) S.nd rfl (by first | exact .inl rfl | exact .inr rfl) (e_ix (e_v (i := 0) rfl (by first | exact .inl rfl | exact .inr (.inl rfl) | exact .inr (.inr rfl)) (by decide) (by decide)) (e_v (i := 1) rfl (by first | exact .inl rfl | exact .inr (.inl rfl) | exact .inr (.inr rfl)) (by decide) (by decide)) (fun _ _ => rfl)) rfl (by first | exact .inl rfl | exact .inr rfl))) ss_nil) ss_nil) (ss_cons (st_asg (ps_set (i := 3) S.nd rfl (by first | exact .inl rfl | exact .inr rfl) (b_max rfl z_max rfl (b_int z_int rfl (e_v (i := 2) rfl (by first | exact .inl rfl | exact .inr (.inl rfl) | exact .inr (.inr rfl)) (by decide) (by decide)) rfl) (b_int z_int rfl (x_sub (e_neg xi) (e_v (i := 2) rfl (by first | exact .inl rfl | exact .inr (.inl rfl) | exact .inr (.inr rfl)) (by decide) (by decide))) rfl) rfl rfl) rfl (by first | exact .inl rfl | exact .inr rfl))) (ss_cons (st_asg (ps_set (i := 4) S.nd rfl (by first | exact .inl rfl | exact .inr rfl) (x_mod (b_int z_int rfl (x_mul (x_add (x_add (x_add (x_mod (b_int z_int rfl (e_v (i := 3) rfl (by first | exact .inl rfl | exact .inr (.inl rfl) | exact .inr (.inr rfl)) (by decide) (by decide)) rfl) xi) (x_mul (x_mul xi (e_v (i := 1) rfl (by first | exact .inl rfl | exact .inr (.inl rfl) | exact .inr (.inr rfl)) (by decide) (by decide))) (e_v (i := 1) rfl (by first | exact .inl rfl | exact .inr (.inl rfl) | exact .inr (.inr rfl)) (by decide) (by decide)))) (x_mul xi (e_v (i := 1) rfl (by first | exact .inl rfl | exact .inr (.inl rfl) | exact .inr (.inr rfl)) (by decide) (by decide)))) xi) xi) rfl) xi) rfl (by first | exact .inl rfl | exact .inr rfl))) (ss_cons (st_retl (l_lst (as_cons (x_mul (e_v (i := 3) rfl (by first | exact .inl rfl | exact .inr (.inl rfl) | exact .inr (.inr rfl)) (by decide) (by decide)) (b_int z_int rfl (x_ge (e_v (i := 3) rfl (by first | exact .inl rfl | exact .inr (.inl rfl) | exact .inr (.inr rfl)) (by decide) (by decide)) (x_pow xi xi)) rfl)) (as_cons (e_v (i := 4) rfl (by first | exact .inl rfl | exact .inr (.inl rfl) | exact .inr (.inr rfl)) (by decide) (by decide)) as_nil rfl) rfl))) ss_nil)))))
def b__law_take : List ST := [.if_ (.cmp .gt (.ix (.v 0) (.c (.int 0))) (.c (.int 0))) [.asg (.name 2) (.bin .mod (.blt .int [.ix (.v 0) (.c (.int 0))]) (.v 1)), .six 0 (.c (.int 0)) (.bin .fdiv (.ix (.v 0) (.c (.int 0))) (.v 1)), .ret (.v 2)] [], .six 0 (.c (.int 1)) (.bin .mod (.blt .int [.bin .add (.bin .mul (.ix (.v 0) (.c (.int 1))) (.c (.int 39373))) (.c (.int 7))]) (.c (.int 2147483647))), .ret (.bin .mod (.blt .int [.bin .fdiv (.bin .mod (.blt .int [.bin .mul (.ix (.v 0) (.c (.int 1))) (.ix (.v 0) (.c (.int 1)))]) (.c (.int 2147483629))) (.c (.int 32))]) (.v 1))]
def g__law_take : Ctx := ⟨[], [], [], [], []⟩
def f__law_take : Fn := ⟨2, some 0, semB g__law_take 3 (some 0) b__law_take⟩
theorem sc__law_take : FnScope ["_law_source", "_law_top", "_law_digit"] ["_law_source", "_law_top"] (defScope (top 38)) := ⟨rfl, rfl, rfl, by decide +kernel, rfl, by decide +kernel, by decide +kernel⟩
theorem ok__law_take {f : Addr} {fd : FuncData} (F : Fun K "_law_take" "_law_take" (top 38) f fd) (z_int : mg "int" = none) :
    FnOk P w K mg base (L2.CX P w) 1 f fd ["_law_source", "_law_top"] (spF K 2 (some 0) (semB g__law_take 3 (some 0) b__law_take)) :=
  have S := sc__law_take
  fn_body F S (by decide) fun cdv A outer s H E hr =>
    (ss_cons (st_if (y_gt (e_ix (e_v (i := 0) rfl (by first | exact .inl rfl | exact .inr (.inl rfl) | exact .inr (.inr rfl)) (by decide) (by decide)) xi (fun _ _ => rfl)) xi) (ss_cons (st_asg (ps_set (i := 2) S.nd rfl (by first | exact .inl rfl | exact .inr rfl) (x_mod (b_int z_int rfl (e_ix (e_v (i := 0) rfl (by first | exact .inl rfl | exact .inr (.inl rfl) | exact .inr (.inr rfl)) (by decide) (by decide)) xi (fun _ _ => rfl)) rfl) (e_v (i := 1) rfl (by first | exact .inl rfl | exact .inr (.inl rfl) | exact .inr (.inr rfl)) (by decide) (by decide))) rfl (by first | exact .inl rfl | exact .inr rfl))) (ss_cons (st_six (ps_asg (x_fdiv (e_ix (e_v (i := 0) rfl (by first | exact .inl rfl | exact .inr (.inl rfl) | exact .inr (.inr rfl)) (by decide) (by decide)) xi (fun _ _ => rfl)) (e_v (i := 1) rfl (by first | exact .inl rfl | exact .inr (.inl rfl) | exact .inr (.inr rfl)) (by decide) (by decide))) (pg_sub (pe_var (i := 0) rfl (by first | exact .inl rfl | exact .inr (.inl rfl) | exact .inr (.inr rfl))) xi set_list (fun _ => rfl)) rfl rfl rfl)) (ss_cons (st_ret (e_v (i := 2) rfl (by first | exact .inl rfl | exact .inr (.inl rfl) | exact .inr (.inr rfl)) (by decide) (by decide))) ss_nil))) ss_nil) (ss_cons (st_six (ps_asg (x_mod (b_int z_int rfl (x_add (x_mul (e_ix (e_v (i := 0) rfl (by first | exact .inl rfl | exact .inr (.inl rfl) | exact .inr (.inr rfl)) (by decide) (by decide)) xi (fun _ _ => rfl)) xi) xi) rfl) xi) (pg_sub (pe_var (i := 0) rfl (by first | exact .inl rfl | exact .inr (.inl rfl) | exact .inr (.inr rfl))) xi set_list (fun _ => rfl)) rfl rfl rfl)) (ss_cons (st_ret (x_mod (b_int z_int rfl (x_fdiv (x_mod (b_int z_int rfl (x_mul (e_ix (e_v (i := 0) rfl (by first | exact .inl rfl | exact .inr (.inl rfl) | exact .inr (.inr rfl)) (by decide) (by decide)) xi (fun _ _ => rfl)) (e_ix (e_v (i := 0) rfl (by first | exact .inl rfl | exact .inr (.inl rfl) | exact .inr (.inr rfl)) (by decide) (by decide)) xi (fun _ _ => rfl))) rfl) xi) xi) rfl) (e_v (i := 1) rfl (by first | exact .inl rfl | exact .inr (.inl rfl) | exact .inr (.inr rfl)) (by decide) (by decide)))) ss_nil)))
def b__law_one : List ST := [.ret (.ix (.v 1) (.call 0 [.v 0, .blt .len [.v 1]]))]
def g__law_one : Ctx := ⟨[f__law_take], [], [], [], []⟩
def f__law_one : Fn := ⟨2, some 0, semB g__law_one 2 (some 0) b__law_one⟩
theorem sc__law_one : FnScope ["_law_source", "_law_things"] ["_law_source", "_law_things"] (defScope (top 39)) := ⟨rfl, rfl, rfl, by decide +kernel, rfl, by decide +kernel, by decide +kernel⟩
theorem ok__law_one {f : Addr} {fd : FuncData} (F : Fun K "_law_one" "_law_one" (top 39) f fd) (F__law_take : FnF P w K mg base 1 "_law_take" f__law_take) (z_len : mg "len" = none) :
    FnOk P w K mg base (L2.CX P w) 2 f fd ["_law_source", "_law_things"] (spF K 2 (some 0) (semB g__law_one 2 (some 0) b__law_one)) :=
  have S := sc__law_one
  fn_body F S (by decide) fun cdv A outer s H E hr =>
    (ss_cons (st_ret (e_ix (e_v (i := 1) rfl (by first | exact .inl rfl | exact .inr (.inl rfl) | exact .inr (.inr rfl)) (by decide) (by decide)) (e_call F__law_take rfl (hr.mono (by decide)) (takes_of rfl rfl rfl rfl) rfl (aa_cons (e_v (i := 0) rfl (by first | exact .inl rfl | exact .inr (.inl rfl) | exact .inr (.inr rfl)) (by decide) (by decide)) (aa_cons (b_len z_len rfl (e_v (i := 1) rfl (by first | exact .inl rfl | exact .inr (.inl rfl) | exact .inr (.inr rfl)) (by decide) (by decide)) rfl) aa_nil rfl) rfl) rfl) (fun _ _ => rfl))) ss_nil)
def b__law_rounds : List ST := [.ret (.lrng (.blt .max2 [.c (.int 1), .blt .min2 [.blt .len [.v 0], .c (.int 4)]]))]
def g__law_rounds : Ctx := ⟨[], [], [], [], []⟩
def f__law_rounds : Fn := ⟨1, none, semB g__law_rounds 1 none b__law_rounds⟩
theorem sc__law_rounds : FnScope ["_law_script"] ["_law_script"] (defScope (top 40)) := ⟨rfl, rfl, rfl, by decide +kernel, rfl, by decide +kernel, by decide +kernel⟩
theorem ok__law_rounds {f : Addr} {fd : FuncData} (F : Fun K "_law_rounds" "_law_rounds" (top 40) f fd) (z_list : mg "list" = none) (z_range : mg "range" = none) (z_max : mg "max" = none) (z_min : mg "min" = none) (z_len : mg "len" = none) :
    FnOk P w K mg base (L2.CX P w) 1 f fd ["_law_script"] (spF K 1 none (semB g__law_rounds 1 none b__law_rounds)) :=
  have S := sc__law_rounds
  fn_body F S (by decide) fun cdv A outer s H E hr =>
    (ss_cons (st_ret (e_lrng rfl rfl z_list rfl z_range (b_max rfl z_max rfl xi (b_min rfl z_min rfl (b_len z_len rfl (e_v (i := 0) rfl (by first | exact .inl rfl | exact .inr (.inl rfl) | exact .inr (.inr rfl)) (by decide) (by decide)) rfl) xi rfl rfl) rfl rfl) rfl)) ss_nil)
def cs__law_heard : List HC := [⟨"BadPart", "part", "part", true⟩, ⟨"BadNumber", "number", "number", true⟩, ⟨"BadIndex", "index", "index", true⟩]
theorem sc__law_heard : FnScope ["_law_call", "e"] ["_law_call"] (defScope (top 41)) := ⟨rfl, rfl, rfl, by decide +kernel, rfl, by decide +kernel, by decide +kernel⟩
theorem hG__law_heard {X : Cx} {q : Str} {g : Addr} {cdv : Value} {I_BadPart I_BadNumber I_BadIndex : Addr} (hgd : X.A.guards = some []) (hu : X.A.units + 100 < cLine) (z_repr : X.mg "repr" = none) (T_BadPart : PySem.ErrBadPart.LowTxt X.K X.mg (clsAt X.K "BadPart") I_BadPart) (T_BadNumber : PySem.ErrBadNumber.LowTxt X.K X.mg (clsAt X.K "BadNumber") I_BadNumber) (T_BadIndex : PySem.ErrBadIndex.LowTxt X.K X.mg (clsAt X.K "BadIndex") I_BadIndex) :
    LamX.GivesTo X ["_law_call", "e"] "_law_heard" (defScope (top 41)) g cdv (defBody (top 41)) "_law_call" q (THeard X.K cs__law_heard) :=
  heard_gives (i := 1) (by decide) rfl rfl (fun _ => rfl) fun s H => (.more ⟨rfl, by decide, .inl T_BadPart.gC⟩ (fun ea eo cls d pn hz hf => cl_rep (k := 0) (Y := (cxOf C8.CX0 X.prog X.w X.K X.mg X.base ["_law_call", "e"] "_law_heard" (defScope (top 41)) g cdv X.A X.stack s H C8.E0).nox) (c := ⟨"BadPart", "part", "part", true⟩) (n := "e") (i := 1) rfl (pe_byLow_BadPart (X := (cxOf C8.CX0 X.prog X.w X.K X.mg X.base ["_law_call", "e"] "_law_heard" (defScope (top 41)) g cdv X.A X.stack s H C8.E0).nox) T_BadPart hz hf (pe_var (i := 1) rfl (by first | exact .inl rfl | exact .inr (.inl rfl) | exact .inr (.inr rfl)))) (by show 1 < 2; decide) hgd (by show X.A.units + 3 + 64 < _; omega) rfl z_repr) (.more ⟨rfl, by decide, .inl T_BadNumber.gC⟩ (fun ea eo cls d pn hz hf => cl_rep (k := 0) (Y := (cxOf C8.CX0 X.prog X.w X.K X.mg X.base ["_law_call", "e"] "_law_heard" (defScope (top 41)) g cdv X.A X.stack s H C8.E0).nox) (c := ⟨"BadNumber", "number", "number", true⟩) (n := "e") (i := 1) rfl (pe_byLow_BadNumber (X := (cxOf C8.CX0 X.prog X.w X.K X.mg X.base ["_law_call", "e"] "_law_heard" (defScope (top 41)) g cdv X.A X.stack s H C8.E0).nox) T_BadNumber hz hf (pe_var (i := 1) rfl (by first | exact .inl rfl | exact .inr (.inl rfl) | exact .inr (.inr rfl)))) (by show 1 < 2; decide) hgd (by show X.A.units + 3 + 64 < _; omega) rfl z_repr) (.more ⟨rfl, by decide, .inl T_BadIndex.gC⟩ (fun ea eo cls d pn hz hf => cl_rep (k := 0) (Y := (cxOf C8.CX0 X.prog X.w X.K X.mg X.base ["_law_call", "e"] "_law_heard" (defScope (top 41)) g cdv X.A X.stack s H C8.E0).nox) (c := ⟨"BadIndex", "index", "index", true⟩) (n := "e") (i := 1) rfl (pe_byLow_BadIndex (X := (cxOf C8.CX0 X.prog X.w X.K X.mg X.base ["_law_call", "e"] "_law_heard" (defScope (top 41)) g cdv X.A X.stack s H C8.E0).nox) T_BadIndex hz hf (pe_var (i := 1) rfl (by first | exact .inl rfl | exact .inr (.inl rfl) | exact .inr (.inr rfl)))) (by show 1 < 2; decide) hgd (by show X.A.units + 3 + 64 < _; omega) rfl z_repr) .none_)))
def b__law_rank : List ST := [.ret (.ite (.cmp .is_ (.v 0) (.c .non)) (.bin .pow (.c (.int 10)) (.c (.int 9))) (.blt .int [.v 0]))]
def g__law_rank : Ctx := ⟨[], [], [], [], []⟩
def f__law_rank : Fn := ⟨1, none, semB g__law_rank 1 none b__law_rank⟩
theorem sc__law_rank : FnScope ["_law_moment_here"] ["_law_moment_here"] (defScope (top 42)) := ⟨rfl, rfl, rfl, by decide +kernel, rfl, by decide +kernel, by decide +kernel⟩
theorem ok__law_rank {f : Addr} {fd : FuncData} (F : Fun K "_law_rank" "_law_rank" (top 42) f fd) (z_int : mg "int" = none) :
    FnOk P w K mg base (L2.CX P w) 1 f fd ["_law_moment_here"] (spF K 1 none (semB g__law_rank 1 none b__law_rank)) :=
  have S := sc__law_rank
  fn_body F S (by decide) fun cdv A outer s H E hr =>
    (ss_cons (st_ret (e_ite (y_is (e_v (i := 0) rfl (by first | exact .inl rfl | exact .inr (.inl rfl) | exact .inr (.inr rfl)) (by decide) (by decide)) xn) (x_pow xi xi) (b_int z_int rfl (e_v (i := 0) rfl (by first | exact .inl rfl | exact .inr (.inl rfl) | exact .inr (.inr rfl)) (by decide) (by decide)) rfl))) ss_nil)
def b__law_moment : List ST := [.ret (.ite (.cmp .eq (.call 0 [.v 0, .c (.int 9)]) (.c (.int 0))) (.c .non) (.call 0 [.v 0, .v 1]))]
def g__law_moment : Ctx := ⟨[f__law_take], [], [], [], []⟩
def f__law_moment : Fn := ⟨2, some 0, semB g__law_moment 2 (some 0) b__law_moment⟩
theorem sc__law_moment : FnScope ["_law_source", "_law_most"] ["_law_source", "_law_most"] (defScope (top 43)) := ⟨rfl, rfl, rfl, by decide +kernel, rfl, by decide +kernel, by decide +kernel⟩
theorem ok__law_moment {f : Addr} {fd : FuncData} (F : Fun K "_law_moment" "_law_moment" (top 43) f fd) (F__law_take : FnF P w K mg base 1 "_law_take" f__law_take) :
    FnOk P w K mg base (L2.CX P w) 2 f fd ["_law_source", "_law_most"] (spF K 2 (some 0) (semB g__law_moment 2 (some 0) b__law_moment)) :=
  have S := sc__law_moment
  fn_body F S (by decide) fun cdv A outer s H E hr =>
    (ss_cons (st_ret (e_ite (y_eq (hu64 hr) (e_call F__law_take rfl (hr.mono (by decide)) (takes_of rfl rfl rfl rfl) rfl (aa_cons (e_v (i := 0) rfl (by first | exact .inl rfl | exact .inr (.inl rfl) | exact .inr (.inr rfl)) (by decide) (by decide)) (aa_cons xi aa_nil rfl) rfl) rfl) xi) xn (e_call F__law_take rfl (hr.mono (by decide)) (takes_of rfl rfl rfl rfl) rfl (aa_cons (e_v (i := 0) rfl (by first | exact .inl rfl | exact .inr (.inl rfl) | exact .inr (.inr rfl)) (by decide) (by decide)) (aa_cons (e_v (i := 1) rfl (by first | exact .inl rfl | exact .inr (.inl rfl) | exact .inr (.inr rfl)) (by decide) (by decide)) aa_nil rfl) rfl) rfl))) ss_nil)
def b__law_sorted : List ST := [.asg (.name 1) (.blt .sorted [.lc (.name 2) (.seq (.v 0)) none (.blt .int [.call 0 [.v 2]]) [2]]), .ret (.lc (.name 2) (.seq (.v 1)) none (.ite (.cmp .eq (.v 2) (.bin .pow (.c (.int 10)) (.c (.int 9)))) (.c .non) (.v 2)) [2])]
def g__law_sorted : Ctx := ⟨[f__law_rank], [], [], [], []⟩
def f__law_sorted : Fn := ⟨1, none, semB g__law_sorted 3 none b__law_sorted⟩
theorem cl__law_sorted_0 {a0 : IR} {env : Env} : ev g__law_sorted (.call 0 [a0]) env = (evs g__law_sorted [a0] env).bind fun ds e1 => runF e1 (f__law_rank.sem ds) := ev_call rfl rfl rfl
theorem sc__law_sorted : FnScope ["_law_some", "_law_told", "_law_one_here"] ["_law_some"] (defScope (top 44)) := ⟨rfl, rfl, rfl, by decide +kernel, rfl, by decide +kernel, by decide +kernel⟩
theorem ok__law_sorted {f : Addr} {fd : FuncData} (F : Fun K "_law_sorted" "_law_sorted" (top 44) f fd) (F__law_rank : FnF P w K mg base 1 "_law_rank" f__law_rank) (z_sorted : mg "sorted" = none) (z_int : mg "int" = none) :
    FnOk P w K mg base (L2.CX P w) 2 f fd ["_law_some"] (spF K 1 none (semB g__law_sorted 3 none b__law_sorted)) :=
  have S := sc__law_sorted
  fn_body F S (by decide) fun cdv A outer s H E hr =>
    (ss_cons (st_asg (ps_set (i := 1) S.nd rfl (by first | exact .inl rfl | exact .inr rfl) (b_sorted z_sorted rfl (e_lc (own := [("_law_one_here", 2)]) rfl S.nd (i_seq (e_v (i := 0) rfl (by first | exact .inl rfl | exact .inr (.inl rfl) | exact .inr (.inr rfl)) (by decide) (by decide))) (blkOk_by (N := ["_law_some", "_law_told", "_law_one_here"]) (sc := defScope (top 44)) (by decide +kernel)) (fun _ _ _ _ _ => (pg_name (i := 2) S.nd rfl (by first | exact .inl rfl | exact .inr rfl) (by first | exact .inl rfl | exact .inr rfl))) (fun _ _ _ _ _ => pts_nil) (fun _ _ _ _ _ => (b_int z_int rfl (e_call F__law_rank rfl (hr.mono (by decide)) takes0 rfl (aa_cons (e_v (i := 2) rfl (by first | exact .inl rfl | exact .inr (.inl rfl) | exact .inr (.inr rfl)) (by decide) (by decide)) aa_nil rfl) rfl) rfl)) (fun _ => rfl)) rfl) rfl (by first | exact .inl rfl | exact .inr rfl))) (ss_cons (st_ret (e_lc (own := [("_law_one_here", 2)]) rfl S.nd (i_seq (e_v (i := 1) rfl (by first | exact .inl rfl | exact .inr (.inl rfl) | exact .inr (.inr rfl)) (by decide) (by decide))) (blkOk_by (N := ["_law_some", "_law_told", "_law_one_here"]) (sc := defScope (top 44)) (by decide +kernel)) (fun _ _ _ _ _ => (pg_name (i := 2) S.nd rfl (by first | exact .inl rfl | exact .inr rfl) (by first | exact .inl rfl | exact .inr rfl))) (fun _ _ _ _ _ => pts_nil) (fun _ _ _ _ _ => (e_ite (y_eq (hu64 hr) (e_v (i := 2) rfl (by first | exact .inl rfl | exact .inr (.inl rfl) | exact .inr (.inr rfl)) (by decide) (by decide)) (x_pow xi xi)) xn (e_v (i := 2) rfl (by first | exact .inl rfl | exact .inr (.inl rfl) | exact .inr (.inr rfl)) (by decide) (by decide)))) (fun _ => rfl))) ss_nil))
def b__law_so_many_th : List ST := [.ret (.ite (.cmp .le (.v 1) (.blt .len [.v 0])) (.ix (.call 0 [.v 0]) (.bin .sub (.v 1) (.c (.int 1)))) (.c .non))]
def g__law_so_many_th : Ctx := ⟨[f__law_sorted], [], [], [], []⟩
def f__law_so_many_th : Fn := ⟨2, none, semB g__law_so_many_th 2 none b__law_so_many_th⟩
theorem cl__law_so_many_th_0 {a0 : IR} {env : Env} : ev g__law_so_many_th (.call 0 [a0]) env = (evs g__law_so_many_th [a0] env).bind fun ds e1 => runF e1 (f__law_sorted.sem ds) := ev_call rfl rfl rfl
theorem sc__law_so_many_th : FnScope ["_law_some", "_law_n"] ["_law_some", "_law_n"] (defScope (top 45)) := ⟨rfl, rfl, rfl, by decide +kernel, rfl, by decide +kernel, by decide +kernel⟩
theorem ok__law_so_many_th {f : Addr} {fd : FuncData} (F : Fun K "_law_so_many_th" "_law_so_many_th" (top 45) f fd) (F__law_sorted : FnF P w K mg base 2 "_law_sorted" f__law_sorted) (z_len : mg "len" = none) :
    FnOk P w K mg base (L2.CX P w) 3 f fd ["_law_some", "_law_n"] (spF K 2 none (semB g__law_so_many_th 2 none b__law_so_many_th)) :=
  have S := sc__law_so_many_th
  fn_body F S (by decide) fun cdv A outer s H E hr =>
    (ss_cons (st_ret (e_ite (y_le (e_v (i := 1) rfl (by first | exact .inl rfl | exact .inr (.inl rfl) | exact .inr (.inr rfl)) (by decide) (by decide)) (b_len z_len rfl (e_v (i := 0) rfl (by first | exact .inl rfl | exact .inr (.inl rfl) | exact .inr (.inr rfl)) (by decide) (by decide)) rfl)) (e_ix (e_call F__law_sorted rfl (hr.mono (by decide)) (takes_of rfl rfl rfl rfl) rfl (aa_cons (e_v (i := 0) rfl (by first | exact .inl rfl | exact .inr (.inl rfl) | exact .inr (.inr rfl)) (by decide) (by decide)) aa_nil rfl) rfl) (x_sub (e_v (i := 1) rfl (by first | exact .inl rfl | exact .inr (.inl rfl) | exact .inr (.inr rfl)) (by decide) (by decide)) xi) (fun _ _ => rfl)) xn)) ss_nil)
def b__law_more : List ST := [.ret (.ite (.cmp .is_ (.v 0) (.c .non)) (.c .non) (.bin .add (.v 0) (.v 1)))]
def g__law_more : Ctx := ⟨[], [], [], [], []⟩
def f__law_more : Fn := ⟨2, none, semB g__law_more 2 none b__law_more⟩
theorem sc__law_more : FnScope ["_law_moment_here", "_law_minutes"] ["_law_moment_here", "_law_minutes"] (defScope (top 46)) := ⟨rfl, rfl, rfl, by decide +kernel, rfl, by decide +kernel, by decide +kernel⟩
theorem ok__law_more {f : Addr} {fd : FuncData} (F : Fun K "_law_more" "_law_more" (top 46) f fd)  :
    FnOk P w K mg base (L2.CX P w) 1 f fd ["_law_moment_here", "_law_minutes"] (spF K 2 none (semB g__law_more 2 none b__law_more)) :=
  have S := sc__law_more
  fn_body F S (by decide) fun cdv A outer s H E hr =>
    (ss_cons (st_ret (e_ite (y_is (e_v (i := 0) rfl (by first | exact .inl rfl | exact .inr (.inl rfl) | exact .inr (.inr rfl)) (by decide) (by decide)) xn) xn (x_add (e_v (i := 0) rfl (by first | exact .inl rfl | exact .inr (.inl rfl) | exact .inr (.inr rfl)) (by decide) (by decide)) (e_v (i := 1) rfl (by first | exact .inl rfl | exact .inr (.inl rfl) | exact .inr (.inr rfl)) (by decide) (by decide))))) ss_nil)
def b__law_max : List ST := [.ret (.ix (.call 0 [.bin .add (.lst [.c (.int 0)]) (.blt .list [.v 0])]) (.neg (.c (.int 1))))]
def g__law_max : Ctx := ⟨[f__law_sorted], [], [], [], []⟩
def f__law_max : Fn := ⟨1, none, semB g__law_max 1 none b__law_max⟩
theorem cl__law_max_0 {a0 : IR} {env : Env} : ev g__law_max (.call 0 [a0]) env = (evs g__law_max [a0] env).bind fun ds e1 => runF e1 (f__law_sorted.sem ds) := ev_call rfl rfl rfl
theorem sc__law_max : FnScope ["_law_some"] ["_law_some"] (defScope (top 47)) := ⟨rfl, rfl, rfl, by decide +kernel, rfl, by decide +kernel, by decide +kernel⟩
theorem ok__law_max {f : Addr} {fd : FuncData} (F : Fun K "_law_max" "_law_max" (top 47) f fd) (F__law_sorted : FnF P w K mg base 2 "_law_sorted" f__law_sorted) (z_list : mg "list" = none) :
    FnOk P w K mg base (L2.CX P w) 3 f fd ["_law_some"] (spF K 1 none (semB g__law_max 1 none b__law_max)) :=
  have S := sc__law_max
  fn_body F S (by decide) fun cdv A outer s H E hr =>
    (ss_cons (st_ret (e_ix (e_call F__law_sorted rfl (hr.mono (by decide)) (takes_of rfl rfl rfl rfl) rfl (aa_cons (x_add (e_lst (as_cons xi as_nil rfl)) (b_list z_list rfl (e_v (i := 0) rfl (by first | exact .inl rfl | exact .inr (.inl rfl) | exact .inr (.inr rfl)) (by decide) (by decide)) rfl)) aa_nil rfl) rfl) (e_neg xi) (fun _ _ => rfl))) ss_nil)
def b__law_min : List ST := [.ret (.ix (.call 0 [.bin .add (.blt .list [.v 0]) (.lst [.c .non])]) (.c (.int 0)))]
def g__law_min : Ctx := ⟨[f__law_sorted], [], [], [], []⟩
def f__law_min : Fn := ⟨1, none, semB g__law_min 1 none b__law_min⟩
theorem cl__law_min_0 {a0 : IR} {env : Env} : ev g__law_min (.call 0 [a0]) env = (evs g__law_min [a0] env).bind fun ds e1 => runF e1 (f__law_sorted.sem ds) := ev_call rfl rfl rfl
theorem sc__law_min : FnScope ["_law_some"] ["_law_some"] (defScope (top 48)) := ⟨rfl, rfl, rfl, by decide +kernel, rfl, by decide +kernel, by decide +kernel⟩
theorem ok__law_min {f : Addr} {fd : FuncData} (F : Fun K "_law_min" "_law_min" (top 48) f fd) (F__law_sorted : FnF P w K mg base 2 "_law_sorted" f__law_sorted) (z_list : mg "list" = none) :
    FnOk P w K mg base (L2.CX P w) 3 f fd ["_law_some"] (spF K 1 none (semB g__law_min 1 none b__law_min)) :=
  have S := sc__law_min
  fn_body F S (by decide) fun cdv A outer s H E hr =>
    (ss_cons (st_ret (e_ix (e_call F__law_sorted rfl (hr.mono (by decide)) (takes_of rfl rfl rfl rfl) rfl (aa_cons (x_add (b_list z_list rfl (e_v (i := 0) rfl (by first | exact .inl rfl | exact .inr (.inl rfl) | exact .inr (.inr rfl)) (by decide) (by decide)) rfl) (e_lst (as_cons xn as_nil rfl))) aa_nil rfl) rfl) xi (fun _ _ => rfl))) ss_nil)
def b__law_room : List ST := [.new 4 (.lst []), .for_ (.tup [5, 6]) (.enum (.v 0)) [.asg (.name 7) (.ite (.cmp .eq (.v 5) (.c (.int 0))) (.v 6) (.call 0 [.lst [.v 6, .call 1 [.ix (.ix (.v 4) (.neg (.c (.int 1)))) (.c (.int 1)), .v 2]]])), .asg (.name 8) (.call 1 [.v 7, .ix (.v 1) (.v 5)]), .if_ (.and_ (.cmp .isnot (.ix (.v 3) (.v 5)) (.c .non)) (.cmp .lt (.bin .add (.v 5) (.c (.int 1))) (.blt .len [.v 0]))) [.asg (.name 9) (.call 1 [.call 0 [.lst [.v 7, .ix (.v 0) (.bin .add (.v 5) (.c (.int 1)))]], .ix (.v 3) (.v 5)]), .asg (.name 8) (.call 2 [.lst [.v 8, .v 9]])] [], .expr (.app 4 (.tup [.v 7, .v 8]))], .ret (.v 4)]
def g__law_room : Ctx := ⟨[f__law_max, f__law_more, f__law_min], [], [], [], []⟩
def f__law_room : Fn := ⟨4, none, semB g__law_room 10 none b__law_room⟩
theorem cl__law_room_0 {a0 : IR} {env : Env} : ev g__law_room (.call 0 [a0]) env = (evs g__law_room [a0] env).bind fun ds e1 => runF e1 (f__law_max.sem ds) := ev_call rfl rfl rfl
theorem cl__law_room_1 {a0 a1 : IR} {env : Env} : ev g__law_room (.call 1 [a0, a1]) env = (evs g__law_room [a0, a1] env).bind fun ds e1 => runF e1 (f__law_more.sem ds) := ev_call rfl rfl rfl
theorem cl__law_room_2 {a0 : IR} {env : Env} : ev g__law_room (.call 2 [a0]) env = (evs g__law_room [a0] env).bind fun ds e1 => runF e1 (f__law_min.sem ds) := ev_call rfl rfl rfl
theorem sc__law_room : FnScope ["_law_arrivals_here", "_law_lengths_here", "_law_turn_here", "_law_notices_here", "_law_found", "_law_at", "_law_arrival_here", "_law_begin", "_law_end", "_law_called"] ["_law_arrivals_here", "_law_lengths_here", "_law_turn_here", "_law_notices_here"] (defScope (top 49)) := ⟨rfl, rfl, rfl, by decide +kernel, rfl, by decide +kernel, by decide +kernel⟩
theorem ok__law_room {f : Addr} {fd : FuncData} (F : Fun K "_law_room" "_law_room" (top 49) f fd) (F__law_max : FnF P w K mg base 3 "_law_max" f__law_max) (F__law_more : FnF P w K mg base 1 "_law_more" f__law_more) (F__law_min : FnF P w K mg base 3 "_law_min" f__law_min) (z_enumerate : mg "enumerate" = none) (z_len : mg "len" = none) :
    FnOk P w K mg base (L2.CX P w) 4 f fd ["_law_arrivals_here", "_law_lengths_here", "_law_turn_here", "_law_notices_here"] (spF K 4 none (semB g__law_room 10 none b__law_room)) :=
  have S := sc__law_room
  fn_body F S (by decide) fun cdv A outer s H E hr =>
    (ss_cons (st_new (ps_set (i := 4) S.nd rfl (by first | exact .inl rfl | exact .inr rfl) (l_lst as_nil) rfl (by first | exact .inl rfl | exact .inr rfl))) (ss_cons (st_for (ps_for (passes_of rfl) rfl (i_enum rfl z_enumerate (e_v (i := 0) rfl (by first | exact .inl rfl | exact .inr (.inl rfl) | exact .inr (.inr rfl)) (by decide) (by decide)) rfl) (pg_tup rfl (pgs_cons (pg_name (i := 5) S.nd rfl (by first | exact .inl rfl | exact .inr rfl) (by first | exact .inl rfl | exact .inr rfl)) (pgs_cons (pg_name (i := 6) S.nd rfl (by first | exact .inl rfl | exact .inr rfl) (by first | exact .inl rfl | exact .inr rfl)) pgs_nil))) (ss_cons (st_asg (ps_set (i := 7) S.nd rfl (by first | exact .inl rfl | exact .inr rfl) (e_ite (y_eq (hu64 hr) (e_v (i := 5) rfl (by first | exact .inl rfl | exact .inr (.inl rfl) | exact .inr (.inr rfl)) (by decide) (by decide)) xi) (e_v (i := 6) rfl (by first | exact .inl rfl | exact .inr (.inl rfl) | exact .inr (.inr rfl)) (by decide) (by decide)) (e_call F__law_max rfl (hr.mono (by decide)) (takes_of rfl rfl rfl rfl) rfl (aa_cons (e_lst (as_cons (e_v (i := 6) rfl (by first | exact .inl rfl | exact .inr (.inl rfl) | exact .inr (.inr rfl)) (by decide) (by decide)) (as_cons (e_call F__law_more rfl (hr.mono (by decide)) (takes_of rfl rfl rfl rfl) rfl (aa_cons (e_ix (e_ix (e_v (i := 4) rfl (by first | exact .inl rfl | exact .inr (.inl rfl) | exact .inr (.inr rfl)) (by decide) (by decide)) (e_neg xi) (fun _ _ => rfl)) xi (fun _ _ => rfl)) (aa_cons (e_v (i := 2) rfl (by first | exact .inl rfl | exact .inr (.inl rfl) | exact .inr (.inr rfl)) (by decide) (by decide)) aa_nil rfl) rfl) rfl) as_nil rfl) rfl)) aa_nil rfl) rfl)) rfl (by first | exact .inl rfl | exact .inr rfl))) (ss_cons (st_asg (ps_set (i := 8) S.nd rfl (by first | exact .inl rfl | exact .inr rfl) (e_call F__law_more rfl (hr.mono (by decide)) (takes_of rfl rfl rfl rfl) rfl (aa_cons (e_v (i := 7) rfl (by first | exact .inl rfl | exact .inr (.inl rfl) | exact .inr (.inr rfl)) (by decide) (by decide)) (aa_cons (e_ix (e_v (i := 1) rfl (by first | exact .inl rfl | exact .inr (.inl rfl) | exact .inr (.inr rfl)) (by decide) (by decide)) (e_v (i := 5) rfl (by first | exact .inl rfl | exact .inr (.inl rfl) | exact .inr (.inr rfl)) (by decide) (by decide)) (fun _ _ => rfl)) aa_nil rfl) rfl) rfl) rfl (by first | exact .inl rfl | exact .inr rfl))) (ss_cons (st_if (PW.pt (w_and (y_isnot (e_ix (e_v (i := 3) rfl (by first | exact .inl rfl | exact .inr (.inl rfl) | exact .inr (.inr rfl)) (by decide) (by decide)) (e_v (i := 5) rfl (by first | exact .inl rfl | exact .inr (.inl rfl) | exact .inr (.inr rfl)) (by decide) (by decide)) (fun _ _ => rfl)) xn) (w_and1 (y_lt (x_add (e_v (i := 5) rfl (by first | exact .inl rfl | exact .inr (.inl rfl) | exact .inr (.inr rfl)) (by decide) (by decide)) xi) (b_len z_len rfl (e_v (i := 0) rfl (by first | exact .inl rfl | exact .inr (.inl rfl) | exact .inr (.inr rfl)) (by decide) (by decide)) rfl))))) (ss_cons (st_asg (ps_set (i := 9) S.nd rfl (by first | exact .inl rfl | exact .inr rfl) (e_call F__law_more rfl (hr.mono (by decide)) (takes_of rfl rfl rfl rfl) rfl (aa_cons (e_call F__law_max rfl (hr.mono (by decide)) (takes_of rfl rfl rfl rfl) rfl (aa_cons (e_lst (as_cons (e_v (i := 7) rfl (by first | exact .inl rfl | exact .inr (.inl rfl) | exact .inr (.inr rfl)) (by decide) (by decide)) (as_cons (e_ix (e_v (i := 0) rfl (by first | exact .inl rfl | exact .inr (.inl rfl) | exact .inr (.inr rfl)) (by decide) (by decide)) (x_add (e_v (i := 5) rfl (by first | exact .inl rfl | exact .inr (.inl rfl) | exact .inr (.inr rfl)) (by decide) (by decide)) xi) (fun _ _ => rfl)) as_nil rfl) rfl)) aa_nil rfl) rfl) (aa_cons (e_ix (e_v (i := 3) rfl (by first | exact .inl rfl | exact .inr (.inl rfl) | exact .inr (.inr rfl)) (by decide) (by decide)) (e_v (i := 5) rfl (by first | exact .inl rfl | exact .inr (.inl rfl) | exact .inr (.inr rfl)) (by decide) (by decide)) (fun _ _ => rfl)) aa_nil rfl) rfl) rfl) rfl (by first | exact .inl rfl | exact .inr rfl))) (ss_cons (st_asg (ps_set (i := 8) S.nd rfl (by first | exact .inl rfl | exact .inr rfl) (e_call F__law_min rfl (hr.mono (by decide)) (takes_of rfl rfl rfl rfl) rfl (aa_cons (e_lst (as_cons (e_v (i := 8) rfl (by first | exact .inl rfl | exact .inr (.inl rfl) | exact .inr (.inr rfl)) (by decide) (by decide)) (as_cons (e_v (i := 9) rfl (by first | exact .inl rfl | exact .inr (.inl rfl) | exact .inr (.inr rfl)) (by decide) (by decide)) as_nil rfl) rfl)) aa_nil rfl) rfl) rfl (by first | exact .inl rfl | exact .inr rfl))) ss_nil)) ss_nil) (ss_cons (st_expr (e_app (i := 4) rfl (by first | exact .inl rfl | exact .inr (.inl rfl) | exact .inr (.inr rfl)) (by decide) (by decide) (e_tup (as_cons (e_v (i := 7) rfl (by first | exact .inl rfl | exact .inr (.inl rfl) | exact .inr (.inr rfl)) (by decide) (by decide)) (as_cons (e_v (i := 8) rfl (by first | exact .inl rfl | exact .inr (.inl rfl) | exact .inr (.inr rfl)) (by decide) (by decide)) as_nil rfl) rfl)) rfl (by rfl) rfl) rfl) ss_nil)))) (fun _ => rfl))) (ss_cons (st_ret (e_v (i := 4) rfl (by first | exact .inl rfl | exact .inr (.inl rfl) | exact .inr (.inr rfl)) (by decide) (by decide))) ss_nil)))
def b__law_meeting_right : List ST := [.asg (.name 4) (.call 0 [.lst [.v 1, .call 1 [.v 0, .v 3]]]), .asg (.name 5) (.lc (.name 6) (.seq (.v 0)) none (.tup [.v 4, .call 0 [.lst [.call 2 [.v 4, .v 2], .v 6]]]) [6]), .if_ (.cmp .ne (.call 3 [.v 1, .v 2, .v 3, .v 0]) (.v 5)) [.ret (.c (.bl false))] [], .if_ (.cmp .ne (.call 4 [.v 1, .blt .tuple [.v 0], .v 3]) (.v 4)) [.ret (.c (.bl false))] [], .ret (.cmp .eq (.lc (.name 6) (.seq (.v 0)) none (.call 5 [.v 4, .v 2, .v 6]) [6]) (.lc (.name 7) (.seq (.v 5)) none (.ix (.v 7) (.c (.int 1))) [7]))]
def g__law_meeting_right : Ctx := ⟨[f__law_max, f__law_so_many_th, f__law_more, f_meeting_row, f_meeting_begin, f_meeting_end], [], [], [], []⟩
def f__law_meeting_right : Fn := ⟨4, none, semB g__law_meeting_right 8 none b__law_meeting_right⟩
theorem cl__law_meeting_right_0 {a0 : IR} {env : Env} : ev g__law_meeting_right (.call 0 [a0]) env = (evs g__law_meeting_right [a0] env).bind fun ds e1 => runF e1 (f__law_max.sem ds) := ev_call rfl rfl rfl
theorem cl__law_meeting_right_1 {a0 a1 : IR} {env : Env} : ev g__law_meeting_right (.call 1 [a0, a1]) env = (evs g__law_meeting_right [a0, a1] env).bind fun ds e1 => runF e1 (f__law_so_many_th.sem ds) := ev_call rfl rfl rfl
theorem cl__law_meeting_right_2 {a0 a1 : IR} {env : Env} : ev g__law_meeting_right (.call 2 [a0, a1]) env = (evs g__law_meeting_right [a0, a1] env).bind fun ds e1 => runF e1 (f__law_more.sem ds) := ev_call rfl rfl rfl
theorem cl__law_meeting_right_3 {a0 a1 a2 a3 : IR} {env : Env} : ev g__law_meeting_right (.call 3 [a0, a1, a2, a3]) env = (evs g__law_meeting_right [a0, a1, a2, a3] env).bind fun ds e1 => runF e1 (f_meeting_row.sem ds) := ev_call rfl rfl rfl
theorem cl__law_meeting_right_4 {a0 a1 a2 : IR} {env : Env} : ev g__law_meeting_right (.call 4 [a0, a1, a2]) env = (evs g__law_meeting_right [a0, a1, a2] env).bind fun ds e1 => runF e1 (f_meeting_begin.sem ds) := ev_call rfl rfl rfl
theorem cl__law_meeting_right_5 {a0 a1 a2 : IR} {env : Env} : ev g__law_meeting_right (.call 5 [a0, a1, a2]) env = (evs g__law_meeting_right [a0, a1, a2] env).bind fun ds e1 => runF e1 (f_meeting_end.sem ds) := ev_call rfl rfl rfl
theorem sc__law_meeting_right : FnScope ["_law_arrivals_here", "_law_opens_here", "_law_length_here", "_law_quorum_here", "_law_begin", "_law_due", "_law_one_here", "_law_row"] ["_law_arrivals_here", "_law_opens_here", "_law_length_here", "_law_quorum_here"] (defScope (top 50)) := ⟨rfl, rfl, rfl, by decide +kernel, rfl, by decide +kernel, by decide +kernel⟩
theorem ok__law_meeting_right {f : Addr} {fd : FuncData} (F : Fun K "_law_meeting_right" "_law_meeting_right" (top 50) f fd) (F__law_max : FnF P w K mg base 3 "_law_max" f__law_max) (F__law_so_many_th : FnF P w K mg base 3 "_law_so_many_th" f__law_so_many_th) (F__law_more : FnF P w K mg base 1 "_law_more" f__law_more) (F_meeting_row : FnF P w K mg base 8 "meeting_row" f_meeting_row) (F_meeting_begin : FnF P w K mg base 7 "meeting_begin" f_meeting_begin) (F_meeting_end : FnF P w K mg base 6 "meeting_end" f_meeting_end) (z_tuple : mg "tuple" = none) :
    FnOk P w K mg base (L2.CX P w) 9 f fd ["_law_arrivals_here", "_law_opens_here", "_law_length_here", "_law_quorum_here"] (spF K 4 none (semB g__law_meeting_right 8 none b__law_meeting_right)) :=
  have S := sc__law_meeting_right
  fn_body F S (by decide) fun cdv A outer s H E hr =>
    (ss_cons (st_asg (ps_set (i := 4) S.nd rfl (by first | exact .inl rfl | exact .inr rfl) (e_call F__law_max rfl (hr.mono (by decide)) (takes_of rfl rfl rfl rfl) rfl (aa_cons (e_lst (as_cons (e_v (i := 1) rfl (by first | exact .inl rfl | exact .inr (.inl rfl) | exact .inr (.inr rfl)) (by decide) (by decide)) (as_cons (e_call F__law_so_many_th rfl (hr.mono (by decide)) (takes_of rfl rfl rfl rfl) rfl (aa_cons (e_v (i := 0) rfl (by first | exact .inl rfl | exact .inr (.inl rfl) | exact .inr (.inr rfl)) (by decide) (by decide)) (aa_cons (e_v (i := 3) rfl (by first | exact .inl rfl | exact .inr (.inl rfl) | exact .inr (.inr rfl)) (by decide) (by decide)) aa_nil rfl) rfl) rfl) as_nil rfl) rfl)) aa_nil rfl) rfl) rfl (by first | exact .inl rfl | exact .inr rfl))) (ss_cons (st_asg (st_lc (ps_setLc (i := 5) (own := [("_law_one_here", 6)]) rfl S.nd rfl rfl (sw_true rfl rfl rfl (by decide +kernel)) (i_seq (e_v (i := 0) rfl (by first | exact .inl rfl | exact .inr (.inl rfl) | exact .inr (.inr rfl)) (by decide) (by decide))) (blkOk_by (N := ["_law_arrivals_here", "_law_opens_here", "_law_length_here", "_law_quorum_here", "_law_begin", "_law_due", "_law_one_here", "_law_row"]) (sc := defScope (top 50)) (by decide +kernel)) (fun _ _ _ _ _ => (pg_name (i := 6) S.nd rfl (by first | exact .inl rfl | exact .inr rfl) (by first | exact .inl rfl | exact .inr rfl))) (fun _ _ _ _ _ => pts_nil) (fun _ _ _ _ _ => (e_tup (as_cons (e_v (i := 4) rfl (by first | exact .inl rfl | exact .inr (.inl rfl) | exact .inr (.inr rfl)) (by decide) (by decide)) (as_cons (e_call F__law_max rfl (hr.mono (by decide)) takes0 rfl (aa_cons (e_lst (as_cons (e_call F__law_more rfl (hr.mono (by decide)) takes0 rfl (aa_cons (e_v (i := 4) rfl (by first | exact .inl rfl | exact .inr (.inl rfl) | exact .inr (.inr rfl)) (by decide) (by decide)) (aa_cons (e_v (i := 2) rfl (by first | exact .inl rfl | exact .inr (.inl rfl) | exact .inr (.inr rfl)) (by decide) (by decide)) aa_nil rfl) rfl) rfl) (as_cons (e_v (i := 6) rfl (by first | exact .inl rfl | exact .inr (.inl rfl) | exact .inr (.inr rfl)) (by decide) (by decide)) as_nil rfl) rfl)) aa_nil rfl) rfl) as_nil rfl) rfl))) (fun _ => rfl)))) (ss_cons (st_if (y_ne (hu64 hr) (e_call F_meeting_row rfl (hr.mono (by decide)) (takes_of rfl rfl rfl rfl) rfl (aa_cons (e_v (i := 1) rfl (by first | exact .inl rfl | exact .inr (.inl rfl) | exact .inr (.inr rfl)) (by decide) (by decide)) (aa_cons (e_v (i := 2) rfl (by first | exact .inl rfl | exact .inr (.inl rfl) | exact .inr (.inr rfl)) (by decide) (by decide)) (aa_cons (e_v (i := 3) rfl (by first | exact .inl rfl | exact .inr (.inl rfl) | exact .inr (.inr rfl)) (by decide) (by decide)) (aa_cons (e_v (i := 0) rfl (by first | exact .inl rfl | exact .inr (.inl rfl) | exact .inr (.inr rfl)) (by decide) (by decide)) aa_nil rfl) rfl) rfl) rfl) rfl) (e_v (i := 5) rfl (by first | exact .inl rfl | exact .inr (.inl rfl) | exact .inr (.inr rfl)) (by decide) (by decide))) (ss_cons (st_ret xb) ss_nil) ss_nil) (ss_cons (st_if (y_ne (hu64 hr) (e_call F_meeting_begin rfl (hr.mono (by decide)) (takes_of rfl rfl rfl rfl) rfl (aa_cons (e_v (i := 1) rfl (by first | exact .inl rfl | exact .inr (.inl rfl) | exact .inr (.inr rfl)) (by decide) (by decide)) (aa_cons (b_tuple z_tuple rfl (e_v (i := 0) rfl (by first | exact .inl rfl | exact .inr (.inl rfl) | exact .inr (.inr rfl)) (by decide) (by decide)) rfl) (aa_cons (e_v (i := 3) rfl (by first | exact .inl rfl | exact .inr (.inl rfl) | exact .inr (.inr rfl)) (by decide) (by decide)) aa_nil rfl) rfl) rfl) rfl) (e_v (i := 4) rfl (by first | exact .inl rfl | exact .inr (.inl rfl) | exact .inr (.inr rfl)) (by decide) (by decide))) (ss_cons (st_ret xb) ss_nil) ss_nil) (ss_cons (st_ret (x_eq (hu64 hr) (e_lc (own := [("_law_one_here", 6)]) rfl S.nd (i_seq (e_v (i := 0) rfl (by first | exact .inl rfl | exact .inr (.inl rfl) | exact .inr (.inr rfl)) (by decide) (by decide))) (blkOk_by (N := ["_law_arrivals_here", "_law_opens_here", "_law_length_here", "_law_quorum_here", "_law_begin", "_law_due", "_law_one_here", "_law_row"]) (sc := defScope (top 50)) (by decide +kernel)) (fun _ _ _ _ _ => (pg_name (i := 6) S.nd rfl (by first | exact .inl rfl | exact .inr rfl) (by first | exact .inl rfl | exact .inr rfl))) (fun _ _ _ _ _ => pts_nil) (fun _ _ _ _ _ => (e_call F_meeting_end rfl (hr.mono (by decide)) takes0 rfl (aa_cons (e_v (i := 4) rfl (by first | exact .inl rfl | exact .inr (.inl rfl) | exact .inr (.inr rfl)) (by decide) (by decide)) (aa_cons (e_v (i := 2) rfl (by first | exact .inl rfl | exact .inr (.inl rfl) | exact .inr (.inr rfl)) (by decide) (by decide)) (aa_cons (e_v (i := 6) rfl (by first | exact .inl rfl | exact .inr (.inl rfl) | exact .inr (.inr rfl)) (by decide) (by decide)) aa_nil rfl) rfl) rfl) rfl)) (fun _ => rfl)) (e_lc (own := [("_law_row", 7)]) rfl S.nd (i_seq (e_v (i := 5) rfl (by first | exact .inl rfl | exact .inr (.inl rfl) | exact .inr (.inr rfl)) (by decide) (by decide))) (blkOk_by (N := ["_law_arrivals_here", "_law_opens_here", "_law_length_here", "_law_quorum_here", "_law_begin", "_law_due", "_law_one_here", "_law_row"]) (sc := defScope (top 50)) (by decide +kernel)) (fun _ _ _ _ _ => (pg_name (i := 7) S.nd rfl (by first | exact .inl rfl | exact .inr rfl) (by first | exact .inl rfl | exact .inr rfl))) (fun _ _ _ _ _ => pts_nil) (fun _ _ _ _ _ => (e_ix (e_v (i := 7) rfl (by first | exact .inl rfl | exact .inr (.inl rfl) | exact .inr (.inr rfl)) (by decide) (by decide)) xi (fun _ _ => rfl))) (fun _ => rfl)))) ss_nil)))))
def b__law_room_right : List ST := [.asg (.name 4) (.call 0 [.v 0, .v 1, .v 2, .v 3]), .if_ (.cmp .ne (.call 1 [.v 0, .v 1, .v 2, .blt .tuple [.v 3]]) (.v 4)) [.ret (.c (.bl false))] [], .for_ (.name 5) (.rng1 (.blt .len [.v 4])) [.asg (.tup [7, 8]) (.ix (.v 4) (.v 5)), .asg (.name 6) (.ite (.cmp .gt (.v 5) (.c (.int 0))) (.ix (.ix (.v 4) (.bin .sub (.v 5) (.c (.int 1)))) (.c (.int 1))) (.c (.int 0))), .if_ (.cmp .ne (.call 2 [.ix (.v 0) (.v 5), .v 6, .ite (.cmp .gt (.v 5) (.c (.int 0))) (.v 2) (.c (.int 0))]) (.v 7)) [.ret (.c (.bl false))] [], .if_ (.or_ (.cmp .is_ (.ix (.v 3) (.v 5)) (.c .non)) (.cmp .eq (.bin .add (.v 5) (.c (.int 1))) (.blt .len [.v 4]))) [.if_ (.cmp .ne (.call 3 [.v 7, .ix (.v 1) (.v 5)]) (.v 8)) [.ret (.c (.bl false))] []] [.if_ (.cmp .ne (.call 4 [.v 7, .ix (.v 1) (.v 5), .ix (.v 3) (.v 5), .ix (.v 0) (.bin .add (.v 5) (.c (.int 1)))]) (.v 8)) [.ret (.c (.bl false))] []]], .ret (.c (.bl true))]
def g__law_room_right : Ctx := ⟨[f__law_room, f_room_row, f_room_begin, f_room_end, f_guest_end], [], [], [], []⟩
def f__law_room_right : Fn := ⟨4, none, semB g__law_room_right 9 none b__law_room_right⟩
theorem cl__law_room_right_0 {a0 a1 a2 a3 : IR} {env : Env} : ev g__law_room_right (.call 0 [a0, a1, a2, a3]) env = (evs g__law_room_right [a0, a1, a2, a3] env).bind fun ds e1 => runF e1 (f__law_room.sem ds) := ev_call rfl rfl rfl
theorem cl__law_room_right_1 {a0 a1 a2 a3 : IR} {env : Env} : ev g__law_room_right (.call 1 [a0, a1, a2, a3]) env = (evs g__law_room_right [a0, a1, a2, a3] env).bind fun ds e1 => runF e1 (f_room_row.sem ds) := ev_call rfl rfl rfl
theorem cl__law_room_right_2 {a0 a1 a2 : IR} {env : Env} : ev g__law_room_right (.call 2 [a0, a1, a2]) env = (evs g__law_room_right [a0, a1, a2] env).bind fun ds e1 => runF e1 (f_room_begin.sem ds) := ev_call rfl rfl rfl
theorem cl__law_room_right_3 {a0 a1 : IR} {env : Env} : ev g__law_room_right (.call 3 [a0, a1]) env = (evs g__law_room_right [a0, a1] env).bind fun ds e1 => runF e1 (f_room_end.sem ds) := ev_call rfl rfl rfl
theorem cl__law_room_right_4 {a0 a1 a2 a3 : IR} {env : Env} : ev g__law_room_right (.call 4 [a0, a1, a2, a3]) env = (evs g__law_room_right [a0, a1, a2, a3] env).bind fun ds e1 => runF e1 (f_guest_end.sem ds) := ev_call rfl rfl rfl
theorem sc__law_room_right : FnScope ["_law_arrivals_here", "_law_lengths_here", "_law_turn_here", "_law_notices_here", "_law_due", "_law_at", "_law_ahead", "_law_begin", "_law_end"] ["_law_arrivals_here", "_law_lengths_here", "_law_turn_here", "_law_notices_here"] (defScope (top 51)) := ⟨rfl, rfl, rfl, by decide +kernel, rfl, by decide +kernel, by decide +kernel⟩
theorem ok__law_room_right {f : Addr} {fd : FuncData} (F : Fun K "_law_room_right" "_law_room_right" (top 51) f fd) (F__law_room : FnF P w K mg base 4 "_law_room" f__law_room) (F_room_row : FnF P w K mg base 7 "room_row" f_room_row) (F_room_begin : FnF P w K mg base 6 "room_begin" f_room_begin) (F_room_end : FnF P w K mg base 6 "room_end" f_room_end) (F_guest_end : FnF P w K mg base 6 "guest_end" f_guest_end) (z_tuple : mg "tuple" = none) (z_range : mg "range" = none) (z_len : mg "len" = none) :
    FnOk P w K mg base (L2.CX P w) 8 f fd ["_law_arrivals_here", "_law_lengths_here", "_law_turn_here", "_law_notices_here"] (spF K 4 none (semB g__law_room_right 9 none b__law_room_right)) :=
  have S := sc__law_room_right
  fn_body F S (by decide) fun cdv A outer s H E hr =>
    (ss_cons (st_asg (ps_set (i := 4) S.nd rfl (by first | exact .inl rfl | exact .inr rfl) (e_call F__law_room rfl (hr.mono (by decide)) (takes_of rfl rfl rfl rfl) rfl (aa_cons (e_v (i := 0) rfl (by first | exact .inl rfl | exact .inr (.inl rfl) | exact .inr (.inr rfl)) (by decide) (by decide)) (aa_cons (e_v (i := 1) rfl (by first | exact .inl rfl | exact .inr (.inl rfl) | exact .inr (.inr rfl)) (by decide) (by decide)) (aa_cons (e_v (i := 2) rfl (by first | exact .inl rfl | exact .inr (.inl rfl) | exact .inr (.inr rfl)) (by decide) (by decide)) (aa_cons (e_v (i := 3) rfl (by first | exact .inl rfl | exact .inr (.inl rfl) | exact .inr (.inr rfl)) (by decide) (by decide)) aa_nil rfl) rfl) rfl) rfl) rfl) rfl (by first | exact .inl rfl | exact .inr rfl))) (ss_cons (st_if (y_ne (hu64 hr) (e_call F_room_row rfl (hr.mono (by decide)) (takes_of rfl rfl rfl rfl) rfl (aa_cons (e_v (i := 0) rfl (by first | exact .inl rfl | exact .inr (.inl rfl) | exact .inr (.inr rfl)) (by decide) (by decide)) (aa_cons (e_v (i := 1) rfl (by first | exact .inl rfl | exact .inr (.inl rfl) | exact .inr (.inr rfl)) (by decide) (by decide)) (aa_cons (e_v (i := 2) rfl (by first | exact .inl rfl | exact .inr (.inl rfl) | exact .inr (.inr rfl)) (by decide) (by decide)) (aa_cons (b_tuple z_tuple rfl (e_v (i := 3) rfl (by first | exact .inl rfl | exact .inr (.inl rfl) | exact .inr (.inr rfl)) (by decide) (by decide)) rfl) aa_nil rfl) rfl) rfl) rfl) rfl) (e_v (i := 4) rfl (by first | exact .inl rfl | exact .inr (.inl rfl) | exact .inr (.inr rfl)) (by decide) (by decide))) (ss_cons (st_ret xb) ss_nil) ss_nil) (ss_cons (st_for (ps_for (passes_of rfl) rfl (i_rng1 rfl z_range (b_len z_len rfl (e_v (i := 4) rfl (by first | exact .inl rfl | exact .inr (.inl rfl) | exact .inr (.inr rfl)) (by decide) (by decide)) rfl) rfl) (pg_name (i := 5) S.nd rfl (by first | exact .inl rfl | exact .inr rfl) (by first | exact .inl rfl | exact .inr rfl)) (ss_cons (st_asg (ps_asg (e_ix (e_v (i := 4) rfl (by first | exact .inl rfl | exact .inr (.inl rfl) | exact .inr (.inr rfl)) (by decide) (by decide)) (e_v (i := 5) rfl (by first | exact .inl rfl | exact .inr (.inl rfl) | exact .inr (.inr rfl)) (by decide) (by decide)) (fun _ _ => rfl)) (pg_tup rfl (pgs_cons (pg_name (i := 7) S.nd rfl (by first | exact .inl rfl | exact .inr rfl) (by first | exact .inl rfl | exact .inr rfl)) (pgs_cons (pg_name (i := 8) S.nd rfl (by first | exact .inl rfl | exact .inr rfl) (by first | exact .inl rfl | exact .inr rfl)) pgs_nil))) rfl rfl rfl)) (ss_cons (st_asg (ps_set (i := 6) S.nd rfl (by first | exact .inl rfl | exact .inr rfl) (e_ite (y_gt (e_v (i := 5) rfl (by first | exact .inl rfl | exact .inr (.inl rfl) | exact .inr (.inr rfl)) (by decide) (by decide)) xi) (e_ix (e_ix (e_v (i := 4) rfl (by first | exact .inl rfl | exact .inr (.inl rfl) | exact .inr (.inr rfl)) (by decide) (by decide)) (x_sub (e_v (i := 5) rfl (by first | exact .inl rfl | exact .inr (.inl rfl) | exact .inr (.inr rfl)) (by decide) (by decide)) xi) (fun _ _ => rfl)) xi (fun _ _ => rfl)) xi) rfl (by first | exact .inl rfl | exact .inr rfl))) (ss_cons (st_if (y_ne (hu64 hr) (e_call F_room_begin rfl (hr.mono (by decide)) (takes_of rfl rfl rfl rfl) rfl (aa_cons (e_ix (e_v (i := 0) rfl (by first | exact .inl rfl | exact .inr (.inl rfl) | exact .inr (.inr rfl)) (by decide) (by decide)) (e_v (i := 5) rfl (by first | exact .inl rfl | exact .inr (.inl rfl) | exact .inr (.inr rfl)) (by decide) (by decide)) (fun _ _ => rfl)) (aa_cons (e_v (i := 6) rfl (by first | exact .inl rfl | exact .inr (.inl rfl) | exact .inr (.inr rfl)) (by decide) (by decide)) (aa_cons (e_ite (y_gt (e_v (i := 5) rfl (by first | exact .inl rfl | exact .inr (.inl rfl) | exact .inr (.inr rfl)) (by decide) (by decide)) xi) (e_v (i := 2) rfl (by first | exact .inl rfl | exact .inr (.inl rfl) | exact .inr (.inr rfl)) (by decide) (by decide)) xi) aa_nil rfl) rfl) rfl) rfl) (e_v (i := 7) rfl (by first | exact .inl rfl | exact .inr (.inl rfl) | exact .inr (.inr rfl)) (by decide) (by decide))) (ss_cons (st_ret xb) ss_nil) ss_nil) (ss_cons (st_if (PW.pt (w_or (y_is (e_ix (e_v (i := 3) rfl (by first | exact .inl rfl | exact .inr (.inl rfl) | exact .inr (.inr rfl)) (by decide) (by decide)) (e_v (i := 5) rfl (by first | exact .inl rfl | exact .inr (.inl rfl) | exact .inr (.inr rfl)) (by decide) (by decide)) (fun _ _ => rfl)) xn) (w_or1 (y_eq (hu64 hr) (x_add (e_v (i := 5) rfl (by first | exact .inl rfl | exact .inr (.inl rfl) | exact .inr (.inr rfl)) (by decide) (by decide)) xi) (b_len z_len rfl (e_v (i := 4) rfl (by first | exact .inl rfl | exact .inr (.inl rfl) | exact .inr (.inr rfl)) (by decide) (by decide)) rfl))))) (ss_cons (st_if (y_ne (hu64 hr) (e_call F_room_end rfl (hr.mono (by decide)) (takes_of rfl rfl rfl rfl) rfl (aa_cons (e_v (i := 7) rfl (by first | exact .inl rfl | exact .inr (.inl rfl) | exact .inr (.inr rfl)) (by decide) (by decide)) (aa_cons (e_ix (e_v (i := 1) rfl (by first | exact .inl rfl | exact .inr (.inl rfl) | exact .inr (.inr rfl)) (by decide) (by decide)) (e_v (i := 5) rfl (by first | exact .inl rfl | exact .inr (.inl rfl) | exact .inr (.inr rfl)) (by decide) (by decide)) (fun _ _ => rfl)) aa_nil rfl) rfl) rfl) (e_v (i := 8) rfl (by first | exact .inl rfl | exact .inr (.inl rfl) | exact .inr (.inr rfl)) (by decide) (by decide))) (ss_cons (st_ret xb) ss_nil) ss_nil) ss_nil) (ss_cons (st_if (y_ne (hu64 hr) (e_call F_guest_end rfl (hr.mono (by decide)) (takes_of rfl rfl rfl rfl) rfl (aa_cons (e_v (i := 7) rfl (by first | exact .inl rfl | exact .inr (.inl rfl) | exact .inr (.inr rfl)) (by decide) (by decide)) (aa_cons (e_ix (e_v (i := 1) rfl (by first | exact .inl rfl | exact .inr (.inl rfl) | exact .inr (.inr rfl)) (by decide) (by decide)) (e_v (i := 5) rfl (by first | exact .inl rfl | exact .inr (.inl rfl) | exact .inr (.inr rfl)) (by decide) (by decide)) (fun _ _ => rfl)) (aa_cons (e_ix (e_v (i := 3) rfl (by first | exact .inl rfl | exact .inr (.inl rfl) | exact .inr (.inr rfl)) (by decide) (by decide)) (e_v (i := 5) rfl (by first | exact .inl rfl | exact .inr (.inl rfl) | exact .inr (.inr rfl)) (by decide) (by decide)) (fun _ _ => rfl)) (aa_cons (e_ix (e_v (i := 0) rfl (by first | exact .inl rfl | exact .inr (.inl rfl) | exact .inr (.inr rfl)) (by decide) (by decide)) (x_add (e_v (i := 5) rfl (by first | exact .inl rfl | exact .inr (.inl rfl) | exact .inr (.inr rfl)) (by decide) (by decide)) xi) (fun _ _ => rfl)) aa_nil rfl) rfl) rfl) rfl) rfl) (e_v (i := 8) rfl (by first | exact .inl rfl | exact .inr (.inl rfl) | exact .inr (.inr rfl)) (by decide) (by decide))) (ss_cons (st_ret xb) ss_nil) ss_nil) ss_nil)) ss_nil)))) (fun _ => rfl))) (ss_cons (st_ret xb) ss_nil))))
def b__law_meeting_refuses : List ST := [.asg (.name 1) (.call 0 [.v 0, .lst [.neg (.c (.int 1)), .c (.bl true), .c (.str "0"), .tup [.c (.int 1)]]]), .asg (.name 2) (.call 0 [.v 0, .lst [.c (.int 0), .c (.int 3), .c .non, .c (.bl true)]]), .if_ (.cmp .ne (.heard cs__law_heard (.call 1 [.v 1, .c .non, .c .non])) (.lst [.c (.str "number"), .blt .repr [.v 1]])) [.ret (.c (.bl false))] [], .if_ (.cmp .ne (.heard cs__law_heard (.call 1 [.c (.int 3), .lst [.v 1], .c .non])) (.lst [.c (.str "part"), .c (.str "'arrivals'")])) [.ret (.c (.bl false))] [], .if_ (.cmp .ne (.heard cs__law_heard (.call 1 [.c (.int 3), .lst [.c (.int 1), .c (.int 2)], .v 2])) (.lst [.c (.str "number"), .blt .repr [.v 2]])) [.ret (.c (.bl false))] [], .if_ (.cmp .ne (.heard cs__law_heard (.call 2 [.c (.int 0), .v 1, .v 2, .lst [.v 1]])) (.lst [.c (.str "number"), .blt .repr [.v 1]])) [.ret (.c (.bl false))] [], .if_ (.cmp .ne (.heard cs__law_heard (.call 2 [.c (.int 0), .c (.int 5), .v 2, .lst [.v 1]])) (.lst [.c (.str "part"), .c (.str "'arrivals'")])) [.ret (.c (.bl false))] [], .if_ (.cmp .ne (.heard cs__law_heard (.call 2 [.c (.int 0), .c (.int 5), .v 2, .lst [.c (.int 1), .c .non]])) (.lst [.c (.str "number"), .blt .repr [.v 2]])) [.ret (.c (.bl false))] [], .if_ (.cmp .ne (.heard cs__law_heard (.call 3 [.v 1, .c .non, .v 1])) (.lst [.c (.str "number"), .blt .repr [.v 1]])) [.ret (.c (.bl false))] [], .ret (.cmp .eq (.heard cs__law_heard (.call 3 [.c .non, .c (.int 5), .v 1])) (.lst [.c (.str "number"), .blt .repr [.v 1]]))]
def g__law_meeting_refuses : Ctx := ⟨[f__law_one, f_meeting_begin, f_meeting_row, f_meeting_end], [], [], [], []⟩
def f__law_meeting_refuses : Fn := ⟨1, some 0, semB g__law_meeting_refuses 3 (some 0) b__law_meeting_refuses⟩
theorem sc__law_meeting_refuses : FnScope ["_law_source", "_law_odd", "_law_bad"] ["_law_source"] (defScope (top 52)) := ⟨rfl, rfl, rfl, by decide +kernel, rfl, by decide +kernel, by decide +kernel⟩
theorem ok__law_meeting_refuses {f : Addr} {fd : FuncData} (F : Fun K "_law_meeting_refuses" "_law_meeting_refuses" (top 52) f fd) (hgd : GdW.gd) {I_BadPart : Addr} (T_BadPart : PySem.ErrBadPart.LowTxt K mg (clsAt K "BadPart") I_BadPart) {I_BadNumber : Addr} (T_BadNumber : PySem.ErrBadNumber.LowTxt K mg (clsAt K "BadNumber") I_BadNumber) {I_BadIndex : Addr} (T_BadIndex : PySem.ErrBadIndex.LowTxt K mg (clsAt K "BadIndex") I_BadIndex) {h__law_heard : Addr} {v__law_heard : Value} (EF__law_heard : ClsFacts K cs__law_heard) (H__law_heard : HrdF K mg "_law_heard" (top 41) "_law_call" h__law_heard v__law_heard) {c_L P_L : Addr} (LT : LamT base mg fd (PySem.Str.ofString "_law_meeting_refuses" ++ PySem.Str.ofString ".<locals>.") c_L P_L) (F__law_one : FnF P w K mg base 2 "_law_one" f__law_one) (L_meeting_begin : @FnF _ ⟨False⟩ P w K mg base 7 "meeting_begin" f_meeting_begin) (L_meeting_row : @FnF _ ⟨False⟩ P w K mg base 8 "meeting_row" f_meeting_row) (L_meeting_end : @FnF _ ⟨False⟩ P w K mg base 6 "meeting_end" f_meeting_end) (z_repr : mg "repr" = none) :
    FnOk P w K mg base (L2.CX P w) 11 f fd ["_law_source"] (spF K 1 (some 0) (semB g__law_meeting_refuses 3 (some 0) b__law_meeting_refuses)) :=
  have S := sc__law_meeting_refuses
  fn_bodyC F LT.code S (by decide) fun A outer s H E hr =>
    (ss_cons (st_asg (ps_set (i := 1) S.nd rfl (by first | exact .inl rfl | exact .inr rfl) (e_call F__law_one rfl (hr.mono (by decide)) (takes_of rfl rfl rfl rfl) rfl (aa_cons (e_v (i := 0) rfl (by first | exact .inl rfl | exact .inr (.inl rfl) | exact .inr (.inr rfl)) (by decide) (by decide)) (aa_cons (e_lst (as_cons (e_neg xi) (as_cons xb (as_cons xs (as_cons (e_tup (as_cons xi as_nil rfl)) as_nil rfl) rfl) rfl) rfl)) aa_nil rfl) rfl) rfl) rfl (by first | exact .inl rfl | exact .inr rfl))) (ss_cons (st_asg (ps_set (i := 2) S.nd rfl (by first | exact .inl rfl | exact .inr rfl) (e_call F__law_one rfl (hr.mono (by decide)) (takes_of rfl rfl rfl rfl) rfl (aa_cons (e_v (i := 0) rfl (by first | exact .inl rfl | exact .inr (.inl rfl) | exact .inr (.inr rfl)) (by decide) (by decide)) (aa_cons (e_lst (as_cons xi (as_cons xi (as_cons xn (as_cons xb as_nil rfl) rfl) rfl) rfl)) aa_nil rfl) rfl) rfl) rfl (by first | exact .inl rfl | exact .inr rfl))) (ss_cons (st_if (y_ne (hu64 hr) (e_hrd (k := 7) EF__law_heard H__law_heard sc__law_heard rfl (by first | exact .inl rfl | exact .inr (.inl rfl) | exact .inr (.inr rfl)) (hG__law_heard (hr.g hgd) hr.r.u100 z_repr T_BadPart T_BadNumber T_BadIndex) LT (by rfl) (by rfl) (hr.r.mono (by decide)) (by rfl) (LamX.lamS_by (by first | rfl | kernel_rfl)) rfl (fun _ _ _ _ _ => rfl) (fun A2 out2 s2 H2 E2 f2 c2 hr2 => (e_callP L_meeting_begin rfl (hr2.mono (by decide)) lam_takes rfl (aa_cons (e_v (i := 1) rfl (by first | exact .inl rfl | exact .inr (.inl rfl) | exact .inr (.inr rfl)) (by decide) (by decide)) (aa_cons xn (aa_cons xn aa_nil rfl) rfl) rfl) rfl)) (by decide) (by decide) (by decide)) (e_lst (as_cons xs (as_cons (b_repr (hr.g hgd) hr.r z_repr rfl (e_v (i := 1) rfl (by first | exact .inl rfl | exact .inr (.inl rfl) | exact .inr (.inr rfl)) (by decide) (by decide)) rfl) as_nil rfl) rfl))) (ss_cons (st_ret xb) ss_nil) ss_nil) (ss_cons (st_if (y_ne (hu64 hr) (e_hrd (k := 7) EF__law_heard H__law_heard sc__law_heard rfl (by first | exact .inl rfl | exact .inr (.inl rfl) | exact .inr (.inr rfl)) (hG__law_heard (hr.g hgd) hr.r.u100 z_repr T_BadPart T_BadNumber T_BadIndex) LT (by rfl) (by rfl) (hr.r.mono (by decide)) (by rfl) (LamX.lamS_by (by first | rfl | kernel_rfl)) rfl (fun _ _ _ _ _ => rfl) (fun A2 out2 s2 H2 E2 f2 c2 hr2 => (e_callP L_meeting_begin rfl (hr2.mono (by decide)) lam_takes rfl (aa_cons xi (aa_cons (e_lst (as_cons (e_v (i := 1) rfl (by first | exact .inl rfl | exact .inr (.inl rfl) | exact .inr (.inr rfl)) (by decide) (by decide)) as_nil rfl)) (aa_cons xn aa_nil rfl) rfl) rfl) rfl)) (by decide) (by decide) (by decide)) (e_lst (as_cons xs (as_cons xs as_nil rfl) rfl))) (ss_cons (st_ret xb) ss_nil) ss_nil) (ss_cons (st_if (y_ne (hu64 hr) (e_hrd (k := 7) EF__law_heard H__law_heard sc__law_heard rfl (by first | exact .inl rfl | exact .inr (.inl rfl) | exact .inr (.inr rfl)) (hG__law_heard (hr.g hgd) hr.r.u100 z_repr T_BadPart T_BadNumber T_BadIndex) LT (by rfl) (by rfl) (hr.r.mono (by decide)) (by rfl) (LamX.lamS_by (by first | rfl | kernel_rfl)) rfl (fun _ _ _ _ _ => rfl) (fun A2 out2 s2 H2 E2 f2 c2 hr2 => (e_callP L_meeting_begin rfl (hr2.mono (by decide)) lam_takes rfl (aa_cons xi (aa_cons (e_lst (as_cons xi (as_cons xi as_nil rfl) rfl)) (aa_cons (e_v (i := 2) rfl (by first | exact .inl rfl | exact .inr (.inl rfl) | exact .inr (.inr rfl)) (by decide) (by decide)) aa_nil rfl) rfl) rfl) rfl)) (by decide) (by decide) (by decide)) (e_lst (as_cons xs (as_cons (b_repr (hr.g hgd) hr.r z_repr rfl (e_v (i := 2) rfl (by first | exact .inl rfl | exact .inr (.inl rfl) | exact .inr (.inr rfl)) (by decide) (by decide)) rfl) as_nil rfl) rfl))) (ss_cons (st_ret xb) ss_nil) ss_nil) (ss_cons (st_if (y_ne (hu64 hr) (e_hrd (k := 8) EF__law_heard H__law_heard sc__law_heard rfl (by first | exact .inl rfl | exact .inr (.inl rfl) | exact .inr (.inr rfl)) (hG__law_heard (hr.g hgd) hr.r.u100 z_repr T_BadPart T_BadNumber T_BadIndex) LT (by rfl) (by rfl) (hr.r.mono (by decide)) (by rfl) (LamX.lamS_by (by first | rfl | kernel_rfl)) rfl (fun _ _ _ _ _ => rfl) (fun A2 out2 s2 H2 E2 f2 c2 hr2 => (e_callP L_meeting_row rfl (hr2.mono (by decide)) lam_takes rfl (aa_cons xi (aa_cons (e_v (i := 1) rfl (by first | exact .inl rfl | exact .inr (.inl rfl) | exact .inr (.inr rfl)) (by decide) (by decide)) (aa_cons (e_v (i := 2) rfl (by first | exact .inl rfl | exact .inr (.inl rfl) | exact .inr (.inr rfl)) (by decide) (by decide)) (aa_cons (e_lst (as_cons (e_v (i := 1) rfl (by first | exact .inl rfl | exact .inr (.inl rfl) | exact .inr (.inr rfl)) (by decide) (by decide)) as_nil rfl)) aa_nil rfl) rfl) rfl) rfl) rfl)) (by decide) (by decide) (by decide)) (e_lst (as_cons xs (as_cons (b_repr (hr.g hgd) hr.r z_repr rfl (e_v (i := 1) rfl (by first | exact .inl rfl | exact .inr (.inl rfl) | exact .inr (.inr rfl)) (by decide) (by decide)) rfl) as_nil rfl) rfl))) (ss_cons (st_ret xb) ss_nil) ss_nil) (ss_cons (st_if (y_ne (hu64 hr) (e_hrd (k := 8) EF__law_heard H__law_heard sc__law_heard rfl (by first | exact .inl rfl | exact .inr (.inl rfl) | exact .inr (.inr rfl)) (hG__law_heard (hr.g hgd) hr.r.u100 z_repr T_BadPart T_BadNumber T_BadIndex) LT (by rfl) (by rfl) (hr.r.mono (by decide)) (by rfl) (LamX.lamS_by (by first | rfl | kernel_rfl)) rfl (fun _ _ _ _ _ => rfl) (fun A2 out2 s2 H2 E2 f2 c2 hr2 => (e_callP L_meeting_row rfl (hr2.mono (by decide)) lam_takes rfl (aa_cons xi (aa_cons xi (aa_cons (e_v (i := 2) rfl (by first | exact .inl rfl | exact .inr (.inl rfl) | exact .inr (.inr rfl)) (by decide) (by decide)) (aa_cons (e_lst (as_cons (e_v (i := 1) rfl (by first | exact .inl rfl | exact .inr (.inl rfl) | exact .inr (.inr rfl)) (by decide) (by decide)) as_nil rfl)) aa_nil rfl) rfl) rfl) rfl) rfl)) (by decide) (by decide) (by decide)) (e_lst (as_cons xs (as_cons xs as_nil rfl) rfl))) (ss_cons (st_ret xb) ss_nil) ss_nil) (ss_cons (st_if (y_ne (hu64 hr) (e_hrd (k := 8) EF__law_heard H__law_heard sc__law_heard rfl (by first | exact .inl rfl | exact .inr (.inl rfl) | exact .inr (.inr rfl)) (hG__law_heard (hr.g hgd) hr.r.u100 z_repr T_BadPart T_BadNumber T_BadIndex) LT (by rfl) (by rfl) (hr.r.mono (by decide)) (by rfl) (LamX.lamS_by (by first | rfl | kernel_rfl)) rfl (fun _ _ _ _ _ => rfl) (fun A2 out2 s2 H2 E2 f2 c2 hr2 => (e_callP L_meeting_row rfl (hr2.mono (by decide)) lam_takes rfl (aa_cons xi (aa_cons xi (aa_cons (e_v (i := 2) rfl (by first | exact .inl rfl | exact .inr (.inl rfl) | exact .inr (.inr rfl)) (by decide) (by decide)) (aa_cons (e_lst (as_cons xi (as_cons xn as_nil rfl) rfl)) aa_nil rfl) rfl) rfl) rfl) rfl)) (by decide) (by decide) (by decide)) (e_lst (as_cons xs (as_cons (b_repr (hr.g hgd) hr.r z_repr rfl (e_v (i := 2) rfl (by first | exact .inl rfl | exact .inr (.inl rfl) | exact .inr (.inr rfl)) (by decide) (by decide)) rfl) as_nil rfl) rfl))) (ss_cons (st_ret xb) ss_nil) ss_nil) (ss_cons (st_if (y_ne (hu64 hr) (e_hrd (k := 6) EF__law_heard H__law_heard sc__law_heard rfl (by first | exact .inl rfl | exact .inr (.inl rfl) | exact .inr (.inr rfl)) (hG__law_heard (hr.g hgd) hr.r.u100 z_repr T_BadPart T_BadNumber T_BadIndex) LT (by rfl) (by rfl) (hr.r.mono (by decide)) (by rfl) (LamX.lamS_by (by first | rfl | kernel_rfl)) rfl (fun _ _ _ _ _ => rfl) (fun A2 out2 s2 H2 E2 f2 c2 hr2 => (e_callP L_meeting_end rfl (hr2.mono (by decide)) lam_takes rfl (aa_cons (e_v (i := 1) rfl (by first | exact .inl rfl | exact .inr (.inl rfl) | exact .inr (.inr rfl)) (by decide) (by decide)) (aa_cons xn (aa_cons (e_v (i := 1) rfl (by first | exact .inl rfl | exact .inr (.inl rfl) | exact .inr (.inr rfl)) (by decide) (by decide)) aa_nil rfl) rfl) rfl) rfl)) (by decide) (by decide) (by decide)) (e_lst (as_cons xs (as_cons (b_repr (hr.g hgd) hr.r z_repr rfl (e_v (i := 1) rfl (by first | exact .inl rfl | exact .inr (.inl rfl) | exact .inr (.inr rfl)) (by decide) (by decide)) rfl) as_nil rfl) rfl))) (ss_cons (st_ret xb) ss_nil) ss_nil) (ss_cons (st_ret (x_eq (hu64 hr) (e_hrd (k := 6) EF__law_heard H__law_heard sc__law_heard rfl (by first | exact .inl rfl | exact .inr (.inl rfl) | exact .inr (.inr rfl)) (hG__law_heard (hr.g hgd) hr.r.u100 z_repr T_BadPart T_BadNumber T_BadIndex) LT (by rfl) (by rfl) (hr.r.mono (by decide)) (by rfl) (LamX.lamS_by (by first | rfl | kernel_rfl)) rfl (fun _ _ _ _ _ => rfl) (fun A2 out2 s2 H2 E2 f2 c2 hr2 => (e_callP L_meeting_end rfl (hr2.mono (by decide)) lam_takes rfl (aa_cons xn (aa_cons xi (aa_cons (e_v (i := 1) rfl (by first | exact .inl rfl | exact .inr (.inl rfl) | exact .inr (.inr rfl)) (by decide) (by decide)) aa_nil rfl) rfl) rfl) rfl)) (by decide) (by decide) (by decide)) (e_lst (as_cons xs (as_cons (b_repr (hr.g hgd) hr.r z_repr rfl (e_v (i := 1) rfl (by first | exact .inl rfl | exact .inr (.inl rfl) | exact .inr (.inr rfl)) (by decide) (by decide)) rfl) as_nil rfl) rfl)))) ss_nil))))))))))
def b__law_room_refuses : List ST := [.asg (.name 1) (.call 0 [.v 0, .lst [.neg (.c (.int 1)), .c (.bl true), .c (.str "0"), .tup [.c (.int 1)]]]), .if_ (.cmp .ne (.heard cs__law_heard (.call 1 [.c .non, .v 1, .c .non])) (.lst [.c (.str "number"), .blt .repr [.v 1]])) [.ret (.c (.bl false))] [], .if_ (.cmp .ne (.heard cs__law_heard (.call 1 [.c (.int 0), .c .non, .v 1])) (.lst [.c (.str "number"), .blt .repr [.v 1]])) [.ret (.c (.bl false))] [], .if_ (.cmp .ne (.heard cs__law_heard (.call 2 [.c (.int 0), .v 1])) (.lst [.c (.str "number"), .blt .repr [.v 1]])) [.ret (.c (.bl false))] [], .if_ (.cmp .ne (.heard cs__law_heard (.call 3 [.c (.int 0), .c (.int 0), .v 1, .c (.str "x")])) (.lst [.c (.str "number"), .blt .repr [.v 1]])) [.ret (.c (.bl false))] [], .if_ (.cmp .ne (.heard cs__law_heard (.call 4 [.lst [.c (.int 0), .c (.int 1)], .lst [.c (.int 1), .v 1], .c (.str "x"), .c .non])) (.lst [.c (.str "part"), .c (.str "'lengths'")])) [.ret (.c (.bl false))] [], .if_ (.cmp .ne (.heard cs__law_heard (.call 4 [.lst [.c (.int 0), .c (.int 1)], .lst [.c (.int 1), .c (.int 2)], .v 1, .c .non])) (.lst [.c (.str "number"), .blt .repr [.v 1]])) [.ret (.c (.bl false))] [], .asg (.name 2) (.call 0 [.v 0, .lst [.c .non, .lst [], .lst [.c (.int 1)], .lst [.c .non, .v 1], .lst [.c (.int 0), .c (.int 0), .c (.int 0)]]]), .ret (.cmp .eq (.heard cs__law_heard (.call 4 [.lst [.c (.int 0), .c (.int 1)], .lst [.c (.int 1), .c (.int 2)], .c (.int 3), .v 2])) (.lst [.c (.str "part"), .c (.str "'notices'")]))]
def g__law_room_refuses : Ctx := ⟨[f__law_one, f_room_begin, f_room_end, f_guest_end, f_room_row], [], [], [], []⟩
def f__law_room_refuses : Fn := ⟨1, some 0, semB g__law_room_refuses 3 (some 0) b__law_room_refuses⟩
theorem sc__law_room_refuses : FnScope ["_law_source", "_law_odd", "_law_wrong"] ["_law_source"] (defScope (top 53)) := ⟨rfl, rfl, rfl, by decide +kernel, rfl, by decide +kernel, by decide +kernel⟩
theorem ok__law_room_refuses {f : Addr} {fd : FuncData} (F : Fun K "_law_room_refuses" "_law_room_refuses" (top 53) f fd) (hgd : GdW.gd) {I_BadPart : Addr} (T_BadPart : PySem.ErrBadPart.LowTxt K mg (clsAt K "BadPart") I_BadPart) {I_BadNumber : Addr} (T_BadNumber : PySem.ErrBadNumber.LowTxt K mg (clsAt K "BadNumber") I_BadNumber) {I_BadIndex : Addr} (T_BadIndex : PySem.ErrBadIndex.LowTxt K mg (clsAt K "BadIndex") I_BadIndex) {h__law_heard : Addr} {v__law_heard : Value} (EF__law_heard : ClsFacts K cs__law_heard) (H__law_heard : HrdF K mg "_law_heard" (top 41) "_law_call" h__law_heard v__law_heard) {c_L P_L : Addr} (LT : LamT base mg fd (PySem.Str.ofString "_law_room_refuses" ++ PySem.Str.ofString ".<locals>.") c_L P_L) (F__law_one : FnF P w K mg base 2 "_law_one" f__law_one) (L_room_begin : @FnF _ ⟨False⟩ P w K mg base 6 "room_begin" f_room_begin) (L_room_end : @FnF _ ⟨False⟩ P w K mg base 6 "room_end" f_room_end) (L_guest_end : @FnF _ ⟨False⟩ P w K mg base 6 "guest_end" f_guest_end) (L_room_row : @FnF _ ⟨False⟩ P w K mg base 7 "room_row" f_room_row) (z_repr : mg "repr" = none) :
    FnOk P w K mg base (L2.CX P w) 10 f fd ["_law_source"] (spF K 1 (some 0) (semB g__law_room_refuses 3 (some 0) b__law_room_refuses)) :=
  have S := sc__law_room_refuses
  fn_bodyC F LT.code S (by decide) fun A outer s H E hr =>
    (ss_cons (st_asg (ps_set (i := 1) S.nd rfl (by first | exact .inl rfl | exact .inr rfl) (e_call F__law_one rfl (hr.mono (by decide)) (takes_of rfl rfl rfl rfl) rfl (aa_cons (e_v (i := 0) rfl (by first | exact .inl rfl | exact .inr (.inl rfl) | exact .inr (.inr rfl)) (by decide) (by decide)) (aa_cons (e_lst (as_cons (e_neg xi) (as_cons xb (as_cons xs (as_cons (e_tup (as_cons xi as_nil rfl)) as_nil rfl) rfl) rfl) rfl)) aa_nil rfl) rfl) rfl) rfl (by first | exact .inl rfl | exact .inr rfl))) (ss_cons (st_if (y_ne (hu64 hr) (e_hrd (k := 6) EF__law_heard H__law_heard sc__law_heard rfl (by first | exact .inl rfl | exact .inr (.inl rfl) | exact .inr (.inr rfl)) (hG__law_heard (hr.g hgd) hr.r.u100 z_repr T_BadPart T_BadNumber T_BadIndex) LT (by rfl) (by rfl) (hr.r.mono (by decide)) (by rfl) (LamX.lamS_by (by first | rfl | kernel_rfl)) rfl (fun _ _ _ _ _ => rfl) (fun A2 out2 s2 H2 E2 f2 c2 hr2 => (e_callP L_room_begin rfl (hr2.mono (by decide)) lam_takes rfl (aa_cons xn (aa_cons (e_v (i := 1) rfl (by first | exact .inl rfl | exact .inr (.inl rfl) | exact .inr (.inr rfl)) (by decide) (by decide)) (aa_cons xn aa_nil rfl) rfl) rfl) rfl)) (by decide) (by decide) (by decide)) (e_lst (as_cons xs (as_cons (b_repr (hr.g hgd) hr.r z_repr rfl (e_v (i := 1) rfl (by first | exact .inl rfl | exact .inr (.inl rfl) | exact .inr (.inr rfl)) (by decide) (by decide)) rfl) as_nil rfl) rfl))) (ss_cons (st_ret xb) ss_nil) ss_nil) (ss_cons (st_if (y_ne (hu64 hr) (e_hrd (k := 6) EF__law_heard H__law_heard sc__law_heard rfl (by first | exact .inl rfl | exact .inr (.inl rfl) | exact .inr (.inr rfl)) (hG__law_heard (hr.g hgd) hr.r.u100 z_repr T_BadPart T_BadNumber T_BadIndex) LT (by rfl) (by rfl) (hr.r.mono (by decide)) (by rfl) (LamX.lamS_by (by first | rfl | kernel_rfl)) rfl (fun _ _ _ _ _ => rfl) (fun A2 out2 s2 H2 E2 f2 c2 hr2 => (e_callP L_room_begin rfl (hr2.mono (by decide)) lam_takes rfl (aa_cons xi (aa_cons xn (aa_cons (e_v (i := 1) rfl (by first | exact .inl rfl | exact .inr (.inl rfl) | exact .inr (.inr rfl)) (by decide) (by decide)) aa_nil rfl) rfl) rfl) rfl)) (by decide) (by decide) (by decide)) (e_lst (as_cons xs (as_cons (b_repr (hr.g hgd) hr.r z_repr rfl (e_v (i := 1) rfl (by first | exact .inl rfl | exact .inr (.inl rfl) | exact .inr (.inr rfl)) (by decide) (by decide)) rfl) as_nil rfl) rfl))) (ss_cons (st_ret xb) ss_nil) ss_nil) (ss_cons (st_if (y_ne (hu64 hr) (e_hrd (k := 6) EF__law_heard H__law_heard sc__law_heard rfl (by first | exact .inl rfl | exact .inr (.inl rfl) | exact .inr (.inr rfl)) (hG__law_heard (hr.g hgd) hr.r.u100 z_repr T_BadPart T_BadNumber T_BadIndex) LT (by rfl) (by rfl) (hr.r.mono (by decide)) (by rfl) (LamX.lamS_by (by first | rfl | kernel_rfl)) rfl (fun _ _ _ _ _ => rfl) (fun A2 out2 s2 H2 E2 f2 c2 hr2 => (e_callP L_room_end rfl (hr2.mono (by decide)) lam_takes rfl (aa_cons xi (aa_cons (e_v (i := 1) rfl (by first | exact .inl rfl | exact .inr (.inl rfl) | exact .inr (.inr rfl)) (by decide) (by decide)) aa_nil rfl) rfl) rfl)) (by decide) (by decide) (by decide)) (e_lst (as_cons xs (as_cons (b_repr (hr.g hgd) hr.r z_repr rfl (e_v (i := 1) rfl (by first | exact .inl rfl | exact .inr (.inl rfl) | exact .inr (.inr rfl)) (by decide) (by decide)) rfl) as_nil rfl) rfl))) (ss_cons (st_ret xb) ss_nil) ss_nil) (ss_cons (st_if (y_ne (hu64 hr) (e_hrd (k := 6) EF__law_heard H__law_heard sc__law_heard rfl (by first | exact .inl rfl | exact .inr (.inl rfl) | exact .inr (.inr rfl)) (hG__law_heard (hr.g hgd) hr.r.u100 z_repr T_BadPart T_BadNumber T_BadIndex) LT (by rfl) (by rfl) (hr.r.mono (by decide)) (by rfl) (LamX.lamS_by (by first | rfl | kernel_rfl)) rfl (fun _ _ _ _ _ => rfl) (fun A2 out2 s2 H2 E2 f2 c2 hr2 => (e_callP L_guest_end rfl (hr2.mono (by decide)) lam_takes rfl (aa_cons xi (aa_cons xi (aa_cons (e_v (i := 1) rfl (by first | exact .inl rfl | exact .inr (.inl rfl) | exact .inr (.inr rfl)) (by decide) (by decide)) (aa_cons xs aa_nil rfl) rfl) rfl) rfl) rfl)) (by decide) (by decide) (by decide)) (e_lst (as_cons xs (as_cons (b_repr (hr.g hgd) hr.r z_repr rfl (e_v (i := 1) rfl (by first | exact .inl rfl | exact .inr (.inl rfl) | exact .inr (.inr rfl)) (by decide) (by decide)) rfl) as_nil rfl) rfl))) (ss_cons (st_ret xb) ss_nil) ss_nil) (ss_cons (st_if (y_ne (hu64 hr) (e_hrd (k := 7) EF__law_heard H__law_heard sc__law_heard rfl (by first | exact .inl rfl | exact .inr (.inl rfl) | exact .inr (.inr rfl)) (hG__law_heard (hr.g hgd) hr.r.u100 z_repr T_BadPart T_BadNumber T_BadIndex) LT (by rfl) (by rfl) (hr.r.mono (by decide)) (by rfl) (LamX.lamS_by (by first | rfl | kernel_rfl)) rfl (fun _ _ _ _ _ => rfl) (fun A2 out2 s2 H2 E2 f2 c2 hr2 => (e_callP L_room_row rfl (hr2.mono (by decide)) lam_takes rfl (aa_cons (e_lst (as_cons xi (as_cons xi as_nil rfl) rfl)) (aa_cons (e_lst (as_cons xi (as_cons (e_v (i := 1) rfl (by first | exact .inl rfl | exact .inr (.inl rfl) | exact .inr (.inr rfl)) (by decide) (by decide)) as_nil rfl) rfl)) (aa_cons xs (aa_cons xn aa_nil rfl) rfl) rfl) rfl) rfl)) (by decide) (by decide) (by decide)) (e_lst (as_cons xs (as_cons xs as_nil rfl) rfl))) (ss_cons (st_ret xb) ss_nil) ss_nil) (ss_cons (st_if (y_ne (hu64 hr) (e_hrd (k := 7) EF__law_heard H__law_heard sc__law_heard rfl (by first | exact .inl rfl | exact .inr (.inl rfl) | exact .inr (.inr rfl)) (hG__law_heard (hr.g hgd) hr.r.u100 z_repr T_BadPart T_BadNumber T_BadIndex) LT (by rfl) (by rfl) (hr.r.mono (by decide)) (by rfl) (LamX.lamS_by (by first | rfl | kernel_rfl)) rfl (fun _ _ _ _ _ => rfl) (fun A2 out2 s2 H2 E2 f2 c2 hr2 => (e_callP L_room_row rfl (hr2.mono (by decide)) lam_takes rfl (aa_cons (e_lst (as_cons xi (as_cons xi as_nil rfl) rfl)) (aa_cons (e_lst (as_cons xi (as_cons xi as_nil rfl) rfl)) (aa_cons (e_v (i := 1) rfl (by first | exact .inl rfl | exact .inr (.inl rfl) | exact .inr (.inr rfl)) (by decide) (by decide)) (aa_cons xn aa_nil rfl) rfl) rfl) rfl) rfl)) (by decide) (by decide) (by decide)) (e_lst (as_cons xs (as_cons (b_repr (hr.g hgd) hr.r z_repr rfl (e_v (i := 1) rfl (by first | exact .inl rfl | exact .inr (.inl rfl) | exact .inr (.inr rfl)) (by decide) (by decide)) rfl) as_nil rfl) rfl))) (ss_cons (st_ret xb) ss_nil) ss_nil) (ss_cons (st_asg (ps_set (i := 2) S.nd rfl (by first | exact .inl rfl | exact .inr rfl) (e_call F__law_one rfl (hr.mono (by decide)) (takes_of rfl rfl rfl rfl) rfl (aa_cons (e_v (i := 0) rfl (by first | exact .inl rfl | exact .inr (.inl rfl) | exact .inr (.inr rfl)) (by decide) (by decide)) (aa_cons (e_lst (as_cons xn (as_cons (e_lst as_nil) (as_cons (e_lst (as_cons xi as_nil rfl)) (as_cons (e_lst (as_cons xn (as_cons (e_v (i := 1) rfl (by first | exact .inl rfl | exact .inr (.inl rfl) | exact .inr (.inr rfl)) (by decide) (by decide)) as_nil rfl) rfl)) (as_cons (e_lst (as_cons xi (as_cons xi (as_cons xi as_nil rfl) rfl) rfl)) as_nil rfl) rfl) rfl) rfl) rfl)) aa_nil rfl) rfl) rfl) rfl (by first | exact .inl rfl | exact .inr rfl))) (ss_cons (st_ret (x_eq (hu64 hr) (e_hrd (k := 7) EF__law_heard H__law_heard sc__law_heard rfl (by first | exact .inl rfl | exact .inr (.inl rfl) | exact .inr (.inr rfl)) (hG__law_heard (hr.g hgd) hr.r.u100 z_repr T_BadPart T_BadNumber T_BadIndex) LT (by rfl) (by rfl) (hr.r.mono (by decide)) (by rfl) (LamX.lamS_by (by first | rfl | kernel_rfl)) rfl (fun _ _ _ _ _ => rfl) (fun A2 out2 s2 H2 E2 f2 c2 hr2 => (e_callP L_room_row rfl (hr2.mono (by decide)) lam_takes rfl (aa_cons (e_lst (as_cons xi (as_cons xi as_nil rfl) rfl)) (aa_cons (e_lst (as_cons xi (as_cons xi as_nil rfl) rfl)) (aa_cons xi (aa_cons (e_v (i := 2) rfl (by first | exact .inl rfl | exact .inr (.inl rfl) | exact .inr (.inr rfl)) (by decide) (by decide)) aa_nil rfl) rfl) rfl) rfl) rfl)) (by decide) (by decide) (by decide)) (e_lst (as_cons xs (as_cons xs as_nil rfl) rfl)))) ss_nil)))))))))
def b_law : List ST := [.for_ (.name 1) (.seq (.call 0 [.v 0])) [.new 2 (.call 0 [.v 0, .v 1]), .asg (.name 3) (.lc (.name 8) (.rng1 (.bin .add (.c (.int 1)) (.call 1 [.v 2, .c (.int 6)]))) none (.call 2 [.v 2, .call 3 [.v 2, .lst [.c (.int 4), .c (.int 30)]]]) [8]), .par [6, 7] [.call 1 [.v 2, .c (.int 20)], .call 3 [.v 2, .lst [.c (.int 0), .c (.int 1), .c (.int 5), .c (.int 20)]]], .if_ (.not_ (.call 4 [.v 3, .v 6, .v 7, .bin .add (.c (.int 1)) (.call 1 [.v 2, .blt .len [.v 3]])])) [.ret (.c (.bl false))] [], .asg (.name 4) (.lc (.name 9) (.seq (.v 3)) none (.call 3 [.v 2, .lst [.c (.int 0), .c (.int 1), .c (.int 4), .c (.int 30)]]) [9]), .asg (.name 5) (.lc (.name 9) (.seq (.v 3)) none (.call 3 [.v 2, .lst [.c .non, .c .non, .c (.int 0), .c (.int 1), .c (.int 5)]]) [9]), .if_ (.not_ (.call 5 [.v 3, .v 4, .call 3 [.v 2, .lst [.c (.int 0), .c (.int 1), .c (.int 5)]], .v 5])) [.ret (.c (.bl false))] [], .if_ (.or_ (.not_ (.call 6 [.v 2])) (.not_ (.call 7 [.v 2]))) [.ret (.c (.bl false))] []], .ret (.and_ (.cmp .eq (.call 8 [.lst [], .lst [], .c (.int 0), .lst []]) (.lst [])) (.cmp .eq (.call 8 [.lst [.c (.int 0), .c (.int 20)], .lst [.c (.int 60), .c (.int 5)], .c (.int 5), .lst [.c (.int 10), .c .non]]) (.lst [.tup [.c (.int 0), .c (.int 30)], .tup [.c (.int 35), .c (.int 40)]])))]
def g_law : Ctx := ⟨[f__law_rounds, f__law_take, f__law_moment, f__law_one, f__law_meeting_right, f__law_room_right, f__law_meeting_refuses, f__law_room_refuses, f_room_row], [], [], [], [f__law_pool]⟩
theorem cl_law_0 {a0 : IR} {env : Env} : ev g_law (.call 0 [a0]) env = (evs g_law [a0] env).bind fun ds e1 => runF e1 (f__law_rounds.sem ds) := ev_call rfl rfl rfl
theorem cl_law_4 {a0 a1 a2 a3 : IR} {env : Env} : ev g_law (.call 4 [a0, a1, a2, a3]) env = (evs g_law [a0, a1, a2, a3] env).bind fun ds e1 => runF e1 (f__law_meeting_right.sem ds) := ev_call rfl rfl rfl
theorem cl_law_5 {a0 a1 a2 a3 : IR} {env : Env} : ev g_law (.call 5 [a0, a1, a2, a3]) env = (evs g_law [a0, a1, a2, a3] env).bind fun ds e1 => runF e1 (f__law_room_right.sem ds) := ev_call rfl rfl rfl
theorem cl_law_8 {a0 a1 a2 a3 : IR} {env : Env} : ev g_law (.call 8 [a0, a1, a2, a3]) env = (evs g_law [a0, a1, a2, a3] env).bind fun ds e1 => runF e1 (f_room_row.sem ds) := ev_call rfl rfl rfl
theorem sc_law : FnScope ["_law_script", "_law_k", "_law_source", "_law_arrivals_here", "_law_lengths_here", "_law_notices_here", "_law_opens_here", "_law_length_here", "_law_turn", "_law_one_here"] ["_law_script"] (defScope (top 54)) := ⟨rfl, rfl, rfl, by decide +kernel, rfl, by decide +kernel, by decide +kernel⟩
theorem ok_law {f : Addr} {fd : FuncData} (F : Fun K "law" "law" (top 54) f fd) (F__law_rounds : FnF P w K mg base 1 "_law_rounds" f__law_rounds) (F__law_take : FnF P w K mg base 1 "_law_take" f__law_take) (F__law_moment : FnF P w K mg base 2 "_law_moment" f__law_moment) (F__law_one : FnF P w K mg base 2 "_law_one" f__law_one) (F__law_meeting_right : FnF P w K mg base 9 "_law_meeting_right" f__law_meeting_right) (F__law_room_right : FnF P w K mg base 8 "_law_room_right" f__law_room_right) (F__law_meeting_refuses : FnF P w K mg base 11 "_law_meeting_refuses" f__law_meeting_refuses) (F__law_room_refuses : FnF P w K mg base 10 "_law_room_refuses" f__law_room_refuses) (F_room_row : FnF P w K mg base 7 "room_row" f_room_row) (F__law_pool : FrF P w K mg base 1 "_law_pool" f__law_pool) (z_range : mg "range" = none) (z_len : mg "len" = none) :
    FnOk P w K mg base (L2.CX P w) 12 f fd ["_law_script"] (spF K 1 none (semB g_law 10 none b_law)) :=
  have S := sc_law
  fn_body F S (by decide) fun cdv A outer s H E hr =>
    (ss_cons (st_for (ps_for (passes_of rfl) rfl (i_seq (e_call F__law_rounds rfl (hr.mono (by decide)) (takes_of rfl rfl rfl rfl) rfl (aa_cons (e_v (i := 0) rfl (by first | exact .inl rfl | exact .inr (.inl rfl) | exact .inr (.inr rfl)) (by decide) (by decide)) aa_nil rfl) rfl)) (pg_name (i := 1) S.nd rfl (by first | exact .inl rfl | exact .inr rfl) (by first | exact .inl rfl | exact .inr rfl)) (ss_cons (st_new (ps_set (i := 2) S.nd rfl (by first | exact .inl rfl | exact .inr rfl) (l_call F__law_pool rfl (hr.mono (by decide)) (takes_of rfl rfl rfl rfl) rfl (as_cons (e_v (i := 0) rfl (by first | exact .inl rfl | exact .inr (.inl rfl) | exact .inr (.inr rfl)) (by decide) (by decide)) (as_cons (e_v (i := 1) rfl (by first | exact .inl rfl | exact .inr (.inl rfl) | exact .inr (.inr rfl)) (by decide) (by decide)) as_nil rfl) rfl) rfl) rfl (by first | exact .inl rfl | exact .inr rfl))) (ss_cons (st_asg (st_lc (ps_setLc (i := 3) (own := [("_law_turn", 8)]) rfl S.nd rfl rfl (sw_true rfl rfl rfl (by decide +kernel)) (i_rng1 rfl z_range (x_add xi (e_call F__law_take rfl (hr.mono (by decide)) (takes_of rfl rfl rfl rfl) rfl (aa_cons (e_v (i := 2) rfl (by first | exact .inl rfl | exact .inr (.inl rfl) | exact .inr (.inr rfl)) (by decide) (by decide)) (aa_cons xi aa_nil rfl) rfl) rfl)) rfl) (blkOk_by (N := ["_law_script", "_law_k", "_law_source", "_law_arrivals_here", "_law_lengths_here", "_law_notices_here", "_law_opens_here", "_law_length_here", "_law_turn", "_law_one_here"]) (sc := defScope (top 54)) (by decide +kernel)) (fun _ _ _ _ _ => (pg_name (i := 8) S.nd rfl (by first | exact .inl rfl | exact .inr rfl) (by first | exact .inl rfl | exact .inr rfl))) (fun _ _ _ _ _ => pts_nil) (fun _ _ _ _ _ => (e_call F__law_moment rfl (hr.mono (by decide)) takes0 rfl (aa_cons (e_v (i := 2) rfl (by first | exact .inl rfl | exact .inr (.inl rfl) | exact .inr (.inr rfl)) (by decide) (by decide)) (aa_cons (e_call F__law_one rfl (hr.mono (by decide)) takes0 rfl (aa_cons (e_v (i := 2) rfl (by first | exact .inl rfl | exact .inr (.inl rfl) | exact .inr (.inr rfl)) (by decide) (by decide)) (aa_cons (e_lst (as_cons xi (as_cons xi as_nil rfl) rfl)) aa_nil rfl) rfl) rfl) aa_nil rfl) rfl) rfl)) (fun _ => rfl)))) (ss_cons (st_par2 (ps_par (i := 6) (j := 7) rfl S.nd rfl rfl (by decide) rfl rfl (as_cons (e_call F__law_take rfl (hr.mono (by decide)) (takes_of rfl rfl rfl rfl) rfl (aa_cons (e_v (i := 2) rfl (by first | exact .inl rfl | exact .inr (.inl rfl) | exact .inr (.inr rfl)) (by decide) (by decide)) (aa_cons xi aa_nil rfl) rfl) rfl) (as_cons (e_call F__law_one rfl (hr.mono (by decide)) (takes_of rfl rfl rfl rfl) rfl (aa_cons (e_v (i := 2) rfl (by first | exact .inl rfl | exact .inr (.inl rfl) | exact .inr (.inr rfl)) (by decide) (by decide)) (aa_cons (e_lst (as_cons xi (as_cons xi (as_cons xi (as_cons xi as_nil rfl) rfl) rfl) rfl)) aa_nil rfl) rfl) rfl) as_nil rfl) rfl) rfl rfl)) (ss_cons (st_if (t_not (t_truth (e_call F__law_meeting_right rfl (hr.mono (by decide)) (takes_of rfl rfl rfl rfl) rfl (aa_cons (e_v (i := 3) rfl (by first | exact .inl rfl | exact .inr (.inl rfl) | exact .inr (.inr rfl)) (by decide) (by decide)) (aa_cons (e_v (i := 6) rfl (by first | exact .inl rfl | exact .inr (.inl rfl) | exact .inr (.inr rfl)) (by decide) (by decide)) (aa_cons (e_v (i := 7) rfl (by first | exact .inl rfl | exact .inr (.inl rfl) | exact .inr (.inr rfl)) (by decide) (by decide)) (aa_cons (x_add xi (e_call F__law_take rfl (hr.mono (by decide)) (takes_of rfl rfl rfl rfl) rfl (aa_cons (e_v (i := 2) rfl (by first | exact .inl rfl | exact .inr (.inl rfl) | exact .inr (.inr rfl)) (by decide) (by decide)) (aa_cons (b_len z_len rfl (e_v (i := 3) rfl (by first | exact .inl rfl | exact .inr (.inl rfl) | exact .inr (.inr rfl)) (by decide) (by decide)) rfl) aa_nil rfl) rfl) rfl)) aa_nil rfl) rfl) rfl) rfl) rfl) (fun _ => rfl))) (ss_cons (st_ret xb) ss_nil) ss_nil) (ss_cons (st_asg (st_lc (ps_setLc (i := 4) (own := [("_law_one_here", 9)]) rfl S.nd rfl rfl (sw_true rfl rfl rfl (by decide +kernel)) (i_seq (e_v (i := 3) rfl (by first | exact .inl rfl | exact .inr (.inl rfl) | exact .inr (.inr rfl)) (by decide) (by decide))) (blkOk_by (N := ["_law_script", "_law_k", "_law_source", "_law_arrivals_here", "_law_lengths_here", "_law_notices_here", "_law_opens_here", "_law_length_here", "_law_turn", "_law_one_here"]) (sc := defScope (top 54)) (by decide +kernel)) (fun _ _ _ _ _ => (pg_name (i := 9) S.nd rfl (by first | exact .inl rfl | exact .inr rfl) (by first | exact .inl rfl | exact .inr rfl))) (fun _ _ _ _ _ => pts_nil) (fun _ _ _ _ _ => (e_call F__law_one rfl (hr.mono (by decide)) takes0 rfl (aa_cons (e_v (i := 2) rfl (by first | exact .inl rfl | exact .inr (.inl rfl) | exact .inr (.inr rfl)) (by decide) (by decide)) (aa_cons (e_lst (as_cons xi (as_cons xi (as_cons xi (as_cons xi as_nil rfl) rfl) rfl) rfl)) aa_nil rfl) rfl) rfl)) (fun _ => rfl)))) (ss_cons (st_asg (st_lc (ps_setLc (i := 5) (own := [("_law_one_here", 9)]) rfl S.nd rfl rfl (sw_true rfl rfl rfl (by decide +kernel)) (i_seq (e_v (i := 3) rfl (by first | exact .inl rfl | exact .inr (.inl rfl) | exact .inr (.inr rfl)) (by decide) (by decide))) (blkOk_by (N := ["_law_script", "_law_k", "_law_source", "_law_arrivals_here", "_law_lengths_here", "_law_notices_here", "_law_opens_here", "_law_length_here", "_law_turn", "_law_one_here"]) (sc := defScope (top 54)) (by decide +kernel)) (fun _ _ _ _ _ => (pg_name (i := 9) S.nd rfl (by first | exact .inl rfl | exact .inr rfl) (by first | exact .inl rfl | exact .inr rfl))) (fun _ _ _ _ _ => pts_nil) (fun _ _ _ _ _ => (e_call F__law_one rfl (hr.mono (by decide)) takes0 rfl (aa_cons (e_v (i := 2) rfl (by first | exact .inl rfl | exact .inr (.inl rfl) | exact .inr (.inr rfl)) (by decide) (by decide)) (aa_cons (e_lst (as_cons xn (as_cons xn (as_cons xi (as_cons xi (as_cons xi as_nil rfl) rfl) rfl) rfl) rfl)) aa_nil rfl) rfl) rfl)) (fun _ => rfl)))) (ss_cons (st_if (t_not (t_truth (e_call F__law_room_right rfl (hr.mono (by decide)) (takes_of rfl rfl rfl rfl) rfl (aa_cons (e_v (i := 3) rfl (by first | exact .inl rfl | exact .inr (.inl rfl) | exact .inr (.inr rfl)) (by decide) (by decide)) (aa_cons (e_v (i := 4) rfl (by first | exact .inl rfl | exact .inr (.inl rfl) | exact .inr (.inr rfl)) (by decide) (by decide)) (aa_cons (e_call F__law_one rfl (hr.mono (by decide)) (takes_of rfl rfl rfl rfl) rfl (aa_cons (e_v (i := 2) rfl (by first | exact .inl rfl | exact .inr (.inl rfl) | exact .inr (.inr rfl)) (by decide) (by decide)) (aa_cons (e_lst (as_cons xi (as_cons xi (as_cons xi as_nil rfl) rfl) rfl)) aa_nil rfl) rfl) rfl) (aa_cons (e_v (i := 5) rfl (by first | exact .inl rfl | exact .inr (.inl rfl) | exact .inr (.inr rfl)) (by decide) (by decide)) aa_nil rfl) rfl) rfl) rfl) rfl) (fun _ => rfl))) (ss_cons (st_ret xb) ss_nil) ss_nil) (ss_cons (st_if (PW.pt (w_or (t_not (t_truth (e_call F__law_meeting_refuses rfl (hr.mono (by decide)) (takes_of rfl rfl rfl rfl) rfl (aa_cons (e_v (i := 2) rfl (by first | exact .inl rfl | exact .inr (.inl rfl) | exact .inr (.inr rfl)) (by decide) (by decide)) aa_nil rfl) rfl) (fun _ => rfl))) (w_or1 (t_not (t_truth (e_call F__law_room_refuses rfl (hr.mono (by decide)) (takes_of rfl rfl rfl rfl) rfl (aa_cons (e_v (i := 2) rfl (by first | exact .inl rfl | exact .inr (.inl rfl) | exact .inr (.inr rfl)) (by decide) (by decide)) aa_nil rfl) rfl) (fun _ => rfl)))))) (ss_cons (st_ret xb) ss_nil) ss_nil) ss_nil)))))))) (fun _ => rfl))) (ss_cons (st_ret (e_and (x_eq (hu64 hr) (e_call F_room_row rfl (hr.mono (by decide)) (takes_of rfl rfl rfl rfl) rfl (aa_cons (e_lst as_nil) (aa_cons (e_lst as_nil) (aa_cons xi (aa_cons (e_lst as_nil) aa_nil rfl) rfl) rfl) rfl) rfl) (e_lst as_nil)) (pe_one (x_eq (hu64 hr) (e_call F_room_row rfl (hr.mono (by decide)) (takes_of rfl rfl rfl rfl) rfl (aa_cons (e_lst (as_cons xi (as_cons xi as_nil rfl) rfl)) (aa_cons (e_lst (as_cons xi (as_cons xi as_nil rfl) rfl)) (aa_cons xi (aa_cons (e_lst (as_cons xi (as_cons xn as_nil rfl) rfl)) aa_nil rfl) rfl) rfl) rfl) rfl) (e_lst (as_cons (e_tup (as_cons xi (as_cons xi as_nil rfl) rfl)) (as_cons (e_tup (as_cons xi (as_cons xi as_nil rfl) rfl)) as_nil rfl) rfl)))))) ss_nil))
end
end Mp
set_option maxHeartbeats 4000000
namespace Mp
open PySem L2
variable [TabsW] [GdW]
def dM : Option Nat → D
  | none => .non
  | some n => .int n
theorem s_con (m : Option Nat) : f_is_count_or_never.sem [dM m] = .ok (.bl true) [] := by
  cases m with
  | none => rfl
  | some n =>
    have e : f_is_count_or_never.sem [.int (n : Int)] = .ok (.bl (decide (0 ≤ (n : Int)))) [] := by rfl
    show f_is_count_or_never.sem [.int (n : Int)] = _
    rw [e, decide_eq_true (by omega)]
theorem bools_true : ∀ (n : Nat), boolsD (List.replicate n (D.bl true)) = some (List.replicate n true)
  | 0 => rfl
  | n + 1 => by
    rw [List.replicate_succ]
    unfold boolsD
    rw [bools_true n]
    rfl
theorem all_true (n : Nat) : bltD .all [.lst (List.replicate n (D.bl true))] = some (.bl true) := by
  show (boolsD (List.replicate n (D.bl true))).map (fun bs => D.bl (bs.all id)) = _
  rw [bools_true]
  simp
theorem s_is_listed (ds : List D) : f_is_listed.sem [.lst ds] = .ok (.bl true) [] := by rfl
theorem s_need_minutes (s : D) (ms : List (Option Nat)) (hl : ms.length ≤ BIG) : f_need_minutes.sem [s, .lst (ms.map dM)] = .ok .non [] := by
  have L : ev g_need_minutes (.lc (.name 2) (.seq (.v 1)) none (.call 1 [.v 2]) [2]) [some (.dat s), some (.dat (.lst (ms.map dM))), none] = .ok (.val (.lst (List.replicate ms.length (D.bl true)))) [some (.dat s), some (.dat (.lst (ms.map dM))), none] := by
    have := ev_lc_run (G := g_need_minutes) (i := 2) (it := .seq (.v 1)) (t := none) (e := .call 1 [.v 2]) (env := [some (.dat s), some (.dat (.lst (ms.map dM))), none]) (env0 := [some (.dat s), some (.dat (.lst (ms.map dM))), none]) (ds := ms.map dM) (fun _ => true) (fun _ => .bl true) rfl (by simpa using hl) rfl (by simp) (fun d hd => rfl) (fun d hd _ => by
      obtain ⟨m, _, rfl⟩ := List.mem_map.mp hd
      rw [cl_need_minutes_1]
      show R.take (runF _ (f_is_count_or_never.sem [dM m])) = _
      rw [s_con]
      rfl)
    rw [this]
    congr 3
    rw [List.map_const', List.filter_eq_self.mpr (fun _ _ => rfl), List.length_map]
  show semB g_need_minutes 3 none b_need_minutes [s, .lst (ms.map dM)] = _
  unfold semB b_need_minutes
  simp [evSs, evS, evs, evr, truR, startE, cellsF, cellF, evq_c, evq_v, evq_bin, evq_cmp, evq_chn, evq_and_, evq_or_, evq_not_, evq_neg, evq_ite, evq_tup, evq_lst, evq_ix, evq_blt, evq_isin, R.bind, R.take, R.toS, SR.seq, takeO, rdO, cellAt, content, truD, runF, outE, lift, cl_need_minutes_0, s_is_listed, L, all_true]
theorem sort_nat (ns : List Nat) : sortI (ns.map fun n : Nat => (n : Int)) = ns.mergeSort.map fun n : Nat => (n : Int) := by
  unfold sortI
  refine (List.map_mergeSort (f := fun n : Nat => (n : Int)) fun a _ b _ => ?_).symm
  by_cases h : a ≤ b
  · rw [decide_eq_true h]; exact (decide_eq_true (by omega)).symm
  · rw [decide_eq_false h]; exact (decide_eq_false (by omega)).symm
theorem ints_nat : ∀ (ns : List Nat), intsD (ns.map fun n : Nat => D.int (n : Int)) = some (ns.map fun n : Nat => (n : Int))
  | [] => rfl
  | n :: ns => by
    rw [List.map_cons]
    unfold intsD
    rw [ints_nat ns]
    rfl
theorem sorted_nat (ns : List Nat) : bltD .sorted [.lst (ns.map fun n : Nat => D.int (n : Int))] = some (.lst (ns.mergeSort.map fun n : Nat => D.int (n : Int))) := by
  show (intsD (ns.map fun n : Nat => D.int (n : Int))).map (fun ns => D.lst ((sortI ns).map .int)) = _
  rw [ints_nat, Option.map_some, sort_nat, List.map_map]
  rfl
theorem len_lst (ds : List D) : bltD .len [.lst ds] = some (.int ds.length) := rfl
def notN : D → Bool
  | .non => false
  | _ => true
theorem told_nat : ∀ (ms : List (Option Nat)), ((ms.map dM).filter notN).map (fun d => match d with | .int i => D.int i | d => d) = (ms.filterMap id).map fun n : Nat => D.int (n : Int)
  | [] => rfl
  | none :: ms => by
    rw [List.map_cons, List.filter_cons_of_neg (by decide), told_nat ms]
    rfl
  | some n :: ms => by
    rw [List.map_cons, List.filter_cons_of_pos (by rfl), List.map_cons, told_nat ms]
    rfl
theorem s_nth_least (ms : List (Option Nat)) (n : Nat) (h1 : 1 ≤ n) (hl : ms.length ≤ BIG) : f_nth_least.sem [.lst (ms.map dM), .int n] = .ok (dM (nthM ms n)) [] := by
  have L : ev g_nth_least (.lc (.name 3) (.seq (.v 0)) (some (.cmp .isnot (.v 3) (.c .non))) (.blt .int [.v 3]) [3]) [some (.dat (.lst (ms.map dM))), some (.dat (.int n)), none, none] = .ok (.val (.lst ((ms.filterMap id).map fun n : Nat => D.int (n : Int)))) [some (.dat (.lst (ms.map dM))), some (.dat (.int n)), none, none] := by
    rw [← told_nat]
    exact ev_lc_run (G := g_nth_least) (i := 3) (it := .seq (.v 0)) (t := some (.cmp .isnot (.v 3) (.c .non))) (e := .blt .int [.v 3]) (env := [some (.dat (.lst (ms.map dM))), some (.dat (.int n)), none, none]) (env0 := [some (.dat (.lst (ms.map dM))), some (.dat (.int n)), none, none]) (ds := ms.map dM) notN (fun d => match d with | .int i => D.int i | d => d) rfl (by simpa using hl) rfl (by simp) (fun d hd => by
      obtain ⟨m, _, rfl⟩ := List.mem_map.mp hd
      cases m <;> rfl) (fun d hd hp => by
      obtain ⟨m, _, rfl⟩ := List.mem_map.mp hd
      cases m with
      | none => cases hp
      | some n => rfl)
  show semB g_nth_least 4 none b_nth_least [.lst (ms.map dM), .int n] = _
  unfold semB b_nth_least
  have hS : (ms.filterMap id).mergeSort = srt ms := rfl
  by_cases hn : n ≤ (srt ms).length
  · have hat : atI ((srt ms).map fun n : Nat => D.int (n : Int)) ((n : Int) - 1) = some (dM (nthM ms n)) := by
      unfold atI
      rw [ix_in' (by omega) (by rw [List.length_map]; omega)]
      have e : ((n : Int) - 1).toNat = n - 1 := by omega
      rw [e]
      show ((srt ms).map fun n : Nat => D.int (n : Int))[n - 1]? = _
      rw [List.getElem?_map]
      unfold nthM
      rw [List.getElem?_eq_getElem (by omega)]
      rfl
    have hle : (n : Int) ≤ ((srt ms).length : Int) := by omega
    simp [evSs, evS, evs, evr, truR, startE, cellsF, cellF, evq_c, evq_v, evq_bin, evq_cmp, evq_chn, evq_and_, evq_or_, evq_not_, evq_neg, evq_ite, evq_tup, evq_lst, evq_ix, evq_blt, evq_isin, R.bind, R.take, R.toS, SR.seq, takeO, rdO, cellAt, content, truD, runF, outE, lift, L, sorted_nat, hS, bindT, freeB, len_lst, cmpD, binD, subD, ixD, hat, hle]
  · have hat : nthM ms n = none := by
      unfold nthM
      exact List.getElem?_eq_none (by omega)
    have hle : ¬ (n : Int) ≤ ((srt ms).length : Int) := by omega
    simp [evSs, evS, evs, evr, truR, startE, cellsF, cellF, evq_c, evq_v, evq_bin, evq_cmp, evq_chn, evq_and_, evq_or_, evq_not_, evq_neg, evq_ite, evq_tup, evq_lst, evq_ix, evq_blt, evq_isin, R.bind, R.take, R.toS, SR.seq, takeO, rdO, cellAt, content, truD, runF, outE, lift, L, sorted_nat, hS, bindT, freeB, len_lst, cmpD, binD, subD, ixD, hat, hle, dM]
theorem s_count (n : Nat) : f_is_count.sem [.int n] = .ok (.bl true) [] := by
  have e : f_is_count.sem [.int (n : Int)] = .ok (.bl (decide (0 ≤ (n : Int)))) [] := by rfl
  rw [e, decide_eq_true (by omega)]
theorem s_ncount (n : Nat) : f_need_count.sem [.int n] = .ok .non [] := by
  show semB g_need_count 1 none b_need_count [.int n] = _
  unfold semB b_need_count
  simp [evSs, evS, evs, evr, truR, startE, cellsF, cellF, evq_c, evq_v, evq_bin, evq_cmp, evq_chn, evq_and_, evq_or_, evq_not_, evq_neg, evq_ite, evq_tup, evq_lst, evq_ix, evq_blt, evq_isin, R.bind, R.take, R.toS, SR.seq, takeO, rdO, cellAt, content, truD, runF, outE, lift, cl_need_count_0, s_count]
theorem s_nminute (m : Option Nat) : f_need_minute.sem [dM m] = .ok .non [] := by
  show semB g_need_minute 1 none b_need_minute [dM m] = _
  unfold semB b_need_minute
  simp [evSs, evS, evs, evr, truR, startE, cellsF, cellF, evq_c, evq_v, evq_bin, evq_cmp, evq_chn, evq_and_, evq_or_, evq_not_, evq_neg, evq_ite, evq_tup, evq_lst, evq_ix, evq_blt, evq_isin, R.bind, R.take, R.toS, SR.seq, takeO, rdO, cellAt, content, truD, runF, outE, lift, cl_need_minute_0, s_con]
theorem s_more (m : Option Nat) (n : Nat) : f_minutes_more.sem [dM m, .int n] = .ok (dM (m.map (· + n))) [] := by
  cases m <;> rfl
theorem s_later_by (m : Option Nat) (n : Nat) : f_later_by.sem [dM m, .int n] = .ok (dM (m.map (· + n))) [] := by
  show semB g_later_by 2 none b_later_by [dM m, .int n] = _
  unfold semB b_later_by
  simp [evSs, evS, evs, evr, truR, startE, cellsF, cellF, evq_c, evq_v, evq_bin, evq_cmp, evq_chn, evq_and_, evq_or_, evq_not_, evq_neg, evq_ite, evq_tup, evq_lst, evq_ix, evq_blt, evq_isin, R.bind, R.take, R.toS, SR.seq, takeO, rdO, cellAt, content, truD, runF, outE, lift, cl_later_by_0, cl_later_by_1, cl_later_by_2, s_nminute, s_ncount, s_more]
theorem s_greatest (ms : List (Option Nat)) (hl : ms.length ≤ BIG) : f_greatest.sem [.lst (ms.map dM)] = .ok (dM (greM ms)) [] := by
  show semB g_greatest 1 none b_greatest [.lst (ms.map dM)] = _
  unfold semB b_greatest
  cases ms with
  | nil =>
    have := s_need_minutes (.str "moments") [] hl
    rw [List.map_nil] at this ⊢
    simp [evSs, evS, evs, evr, truR, startE, cellsF, cellF, evq_c, evq_v, evq_bin, evq_cmp, evq_chn, evq_and_, evq_or_, evq_not_, evq_neg, evq_ite, evq_tup, evq_lst, evq_ix, evq_blt, evq_isin, R.bind, R.take, R.toS, SR.seq, takeO, rdO, cellAt, content, truD, runF, outE, lift, cl_greatest_0, this, greM, dM]
  | cons m ms =>
    have h1 := s_need_minutes (.str "moments") (m :: ms) hl
    have h2 := s_nth_least (m :: ms) (m :: ms).length (by simp) hl
    have e : greM (m :: ms) = nthM (m :: ms) (m :: ms).length := by unfold greM; rw [if_neg (by simp)]
    rw [e]
    rw [List.map_cons] at h1 h2 ⊢
    have h3 : f_nth_least.sem [D.lst (dM m :: ms.map dM), D.int ((ms.length : Int) + 1)] = .ok (dM (nthM (m :: ms) (ms.length + 1))) [] := h2
    simp only [List.length_cons] at ⊢
    simp [evSs, evS, evs, evr, truR, startE, cellsF, cellF, evq_c, evq_v, evq_bin, evq_cmp, evq_chn, evq_and_, evq_or_, evq_not_, evq_neg, evq_ite, evq_tup, evq_lst, evq_ix, evq_blt, evq_isin, R.bind, R.take, R.toS, SR.seq, takeO, rdO, cellAt, content, truD, runF, outE, lift, cl_greatest_0, cl_greatest_1, h1, len_lst, h3]
theorem s_is_less (a b : Option Nat) : f_is_less.sem [dM a, dM b] = .ok (.bl (ltM a b)) [] := by
  cases a with
  | none => cases b <;> rfl
  | some a =>
    cases b with
    | none => rfl
    | some b =>
      have e : f_is_less.sem [.int (a : Int), .int (b : Int)] = .ok (.bl (decide ((a : Int) < (b : Int)))) [] := by rfl
      show f_is_less.sem [.int (a : Int), .int (b : Int)] = _
      rw [e]
      show _ = FR.ok (.bl (decide (a < b))) []
      by_cases h : a < b
      · rw [decide_eq_true h, decide_eq_true (by omega)]
      · rw [decide_eq_false h, decide_eq_false (by omega)]
theorem s_lesser (a b : Option Nat) : f_lesser.sem [dM a, dM b] = .ok (dM (if ltM b a = true then b else a)) [] := by
  show semB g_lesser 2 none b_lesser [dM a, dM b] = _
  unfold semB b_lesser
  cases h : ltM b a with
  | true => simp [evSs, evS, evs, evr, truR, startE, cellsF, cellF, evq_c, evq_v, evq_bin, evq_cmp, evq_chn, evq_and_, evq_or_, evq_not_, evq_neg, evq_ite, evq_tup, evq_lst, evq_ix, evq_blt, evq_isin, R.bind, R.take, R.toS, SR.seq, takeO, rdO, cellAt, content, truD, runF, outE, lift, cl_lesser_0, s_is_less, h]
  | false => simp [evSs, evS, evs, evr, truR, startE, cellsF, cellF, evq_c, evq_v, evq_bin, evq_cmp, evq_chn, evq_and_, evq_or_, evq_not_, evq_neg, evq_ite, evq_tup, evq_lst, evq_ix, evq_blt, evq_isin, R.bind, R.take, R.toS, SR.seq, takeO, rdO, cellAt, content, truD, runF, outE, lift, cl_lesser_0, s_is_less, h]
theorem max_nat (a b : Nat) : bltD .max2 [.int (a : Int), .int (b : Int)] = some (.int ((max a b : Nat) : Int)) := by
  show some (D.int (if (b : Int) > (a : Int) then (b : Int) else (a : Int))) = _
  congr 2
  split <;> omega
end Mp
set_option maxHeartbeats 4000000
namespace Mp
open PySem L2
variable [TabsW] [GdW]
def dNs (ns : List Nat) : List D := ns.map fun n : Nat => D.int (n : Int)
def dP (p : Option Nat × Option Nat) : D := .tup [dM p.1, dM p.2]
theorem s_whole (n : Nat) : f_is_whole.sem [.int n] = .ok (.bl true) [] := by rfl
theorem s_need_nth (ms : List (Option Nat)) (n : Nat) (h1 : 1 ≤ n) (hl : ms.length ≤ BIG) : f_need_nth.sem [.lst (ms.map dM), .int n] = .ok .non [] := by
  have q1 := s_need_minutes (.str "moments") ms hl
  have q2 := s_whole n
  have c : ¬ ((n : Int) < 1) := by omega
  show semB g_need_nth 2 none b_need_nth [.lst (ms.map dM), .int n] = _
  unfold semB b_need_nth
  simp [evSs, evS, evs, evr, truR, startE, cellsF, cellF, evq_c, evq_v, evq_bin, evq_cmp, evq_chn, evq_and_, evq_or_, evq_not_, evq_neg, evq_ite, evq_tup, evq_lst, evq_ix, evq_blt, evq_isin, R.bind, R.take, R.toS, SR.seq, takeO, rdO, cellAt, content, truD, runF, outE, lift, cl_need_nth_0, cl_need_nth_1, q1, q2, cmpD, c]
theorem s_nth (ms : List (Option Nat)) (n : Nat) (h1 : 1 ≤ n) (hl : ms.length ≤ BIG) : f_nth.sem [.lst (ms.map dM), .int n] = .ok (dM (nthM ms n)) [] := by
  have q1 := s_need_nth ms n h1 hl
  have q2 := s_nth_least ms n h1 hl
  show semB g_nth 2 none b_nth [.lst (ms.map dM), .int n] = _
  unfold semB b_nth
  simp [evSs, evS, evs, evr, truR, startE, cellsF, cellF, evq_c, evq_v, evq_bin, evq_cmp, evq_chn, evq_and_, evq_or_, evq_not_, evq_neg, evq_ite, evq_tup, evq_lst, evq_ix, evq_blt, evq_isin, R.bind, R.take, R.toS, SR.seq, takeO, rdO, cellAt, content, truD, runF, outE, lift, cl_nth_0, cl_nth_1, q1, q2]
end Mp
set_option maxHeartbeats 4000000
namespace Mp
open PySem L2
variable [TabsW] [GdW]
/-- a slot's content that may be overwritten -/
def frC : Option Cell → Bool
  | some (.io _) => false
  | some (.slf _ _ _) => false
  | _ => true
theorem freeB_eq (env : Env) (i : Nat) : freeB env i = match env[i]? with
    | some x => frC x
    | none => false := by
  unfold freeB
  cases env[i]? with
  | none => rfl
  | some x => cases x with
    | none => rfl
    | some c => cases c <;> rfl
@[simp] theorem frC_none : frC none = true := rfl
@[simp] theorem frC_dat (d) : frC (some (.dat d)) = true := rfl
@[simp] theorem frC_own (d) : frC (some (.own d)) = true := rfl
theorem last_at {α} (ds : List α) (h : ds ≠ []) : atI ds (-1) = ds.getLast? := by
  have hl : 0 < ds.length := List.length_pos_iff.mpr h
  unfold atI ixN
  rw [if_neg (by omega), if_pos (by omega), List.getLast?_eq_getElem?]
  show ds[((-1 : Int) + (ds.length : Int)).toNat]? = _
  congr 1; omega
theorem last_row (r : Row) (h : r ≠ []) : ∃ p, r.getLast? = some p ∧ atI (r.map dP) (-1) = some (dP p) := by
  obtain ⟨p, hp⟩ : ∃ p, r.getLast? = some p := by
    cases hh : r.getLast? with
    | none => exact absurd (List.getLast?_eq_none_iff.mp hh) h
    | some p => exact ⟨p, rfl⟩
  refine ⟨p, hp, ?_⟩
  rw [last_at _ (by simpa using h), List.getLast?_map, hp]
  rfl
theorem s_lengths (ns : List Nat) (hl : ns.length ≤ BIG) : f_need_lengths.sem [.lst (dNs ns), .int ns.length] = .ok .non [] := by
  have L : ev g_need_lengths (.lc (.name 2) (.seq (.v 0)) none (.call 1 [.v 2]) [2]) [some (.dat (.lst (dNs ns))), some (.dat (.int ns.length)), none] = .ok (.val (.lst (List.replicate ns.length (D.bl true)))) [some (.dat (.lst (dNs ns))), some (.dat (.int ns.length)), none] := by
    have := ev_lc_run (G := g_need_lengths) (i := 2) (it := .seq (.v 0)) (t := none) (e := .call 1 [.v 2]) (env := [some (.dat (.lst (dNs ns))), some (.dat (.int ns.length)), none]) (env0 := [some (.dat (.lst (dNs ns))), some (.dat (.int ns.length)), none]) (ds := dNs ns) (fun _ => true) (fun _ => .bl true) rfl (by simpa [dNs] using hl) rfl (by simp) (fun d hd => rfl) (fun d hd _ => by
      obtain ⟨m, _, rfl⟩ := List.mem_map.mp hd
      rw [cl_need_lengths_1]
      show R.take (runF _ (f_is_count.sem [.int m])) = _
      rw [s_count]
      rfl)
    rw [this]
    congr 3
    rw [List.map_const', List.filter_eq_self.mpr (fun _ _ => rfl)]
    simp [dNs]
  have hlen : (dNs ns).length = ns.length := by simp [dNs]
  have hd : cmpD .ne (.int (ns.length : Int)) (.int (ns.length : Int)) = some false := by simp [cmpD, dataD, eqD]
  show semB g_need_lengths 3 none b_need_lengths [.lst (dNs ns), .int ns.length] = _
  unfold semB b_need_lengths
  simp [evSs, evS, evs, evr, truR, startE, cellsF, cellF, evq_c, evq_v, evq_bin, evq_cmp, evq_chn, evq_and_, evq_or_, evq_not_, evq_neg, evq_ite, evq_tup, evq_lst, evq_ix, evq_blt, evq_isin, R.bind, R.take, R.toS, SR.seq, takeO, rdO, cellAt, content, truD, runF, outE, lift, cl_need_lengths_0, s_is_listed, L, all_true, len_lst, hlen, hd]
end Mp
set_option maxHeartbeats 4000000
namespace Mp
open PySem L2
variable [TabsW] [GdW]
section
variable (A B K H : D) (r : Row) (a b : Option Nat) (n : Nat)
def dR (r : Row) : D := .lst (r.map dP)
end
end Mp
set_option maxHeartbeats 4000000
namespace Mp
open PySem L2
variable [TabsW] [GdW]
theorem dM_inj {p q : Option Nat} (h : dM p = dM q) : p = q := by
  cases p with
  | none => cases q with
    | none => rfl
    | some q => cases h
  | some p => cases q with
    | none => cases h
    | some q => rw [Int.ofNat.inj (D.int.inj h)]
theorem s_between (n lo hi : Nat) (h1 : lo ≤ n) (h2 : n ≤ hi) : f_is_between.sem [.int n, .int lo, .int hi] = .ok (.bl true) [] := by
  have c1 : decide ((lo : Int) ≤ (n : Int)) = true := decide_eq_true (by omega)
  have c2 : decide ((n : Int) ≤ (hi : Int)) = true := decide_eq_true (by omega)
  have q := s_whole n
  show semB g_is_between 3 none b_is_between [.int n, .int lo, .int hi] = _
  unfold semB b_is_between
  simp [evSs, evS, evs, evr, truR, startE, cellsF, cellF, evq_c, evq_v, evq_bin, evq_cmp, evq_chn, evq_and_, evq_or_, evq_not_, evq_neg, evq_ite, evq_tup, evq_lst, evq_ix, evq_blt, evq_isin, R.bind, R.take, R.toS, SR.seq, takeO, rdO, cellAt, content, truD, runF, outE, lift, cl_is_between_0, q, cmpD, c1, c2, h1, h2]
theorem s_need_quorum (q : Nat) (ms : List D) (h1 : 1 ≤ q) (h2 : q ≤ ms.length) : f_need_quorum.sem [.int q, .lst ms] = .ok .non [] := by
  have b := s_between q 1 ms.length h1 h2
  have b' : f_is_between.sem [.int q, .int 1, .int ms.length] = .ok (.bl true) [] := b
  show semB g_need_quorum 2 none b_need_quorum [.int q, .lst ms] = _
  unfold semB b_need_quorum
  simp [evSs, evS, evs, evr, truR, startE, cellsF, cellF, evq_c, evq_v, evq_bin, evq_cmp, evq_chn, evq_and_, evq_or_, evq_not_, evq_neg, evq_ite, evq_tup, evq_lst, evq_ix, evq_blt, evq_isin, R.bind, R.take, R.toS, SR.seq, takeO, rdO, cellAt, content, truD, runF, outE, lift, cl_need_quorum_0, b', len_lst]
theorem s_meeting_begin (opens q : Nat) (as : List (Option Nat)) (h1 : 1 ≤ q) (h2 : q ≤ as.length) (hl : as.length ≤ BIG) :
    f_meeting_begin.sem [.int opens, .lst (as.map dM), .int q] = .ok (dM (greM [some opens, nthM as q])) [] := by
  have q1 := s_ncount opens
  have q2 := s_need_minutes (.str "arrivals") as hl
  have q3 := s_need_quorum q (as.map dM) h1 (by simpa using h2)
  have q4 := s_nth as q h1 hl
  have q5 : f_greatest.sem [.lst [.int opens, dM (nthM as q)]] = _ := s_greatest [some opens, nthM as q] (by show 2 ≤ BIG; decide)
  have hb : 2 ≤ BIG := by decide
  show semB g_meeting_begin 3 none b_meeting_begin [.int opens, .lst (as.map dM), .int q] = _
  unfold semB b_meeting_begin
  simp [evSs, evS, evs, evr, truR, startE, cellsF, cellF, evq_c, evq_v, evq_bin, evq_cmp, evq_chn, evq_and_, evq_or_, evq_not_, evq_neg, evq_ite, evq_tup, evq_lst, evq_ix, evq_blt, evq_isin, R.bind, R.take, R.toS, SR.seq, takeO, rdO, cellAt, content, truD, runF, outE, lift, cl_meeting_begin_0, cl_meeting_begin_1, cl_meeting_begin_2, cl_meeting_begin_3, cl_meeting_begin_4, q1, q2, q3, q4, q5, hb]
theorem s_meeting_end (b : Option Nat) (len : Nat) (a : Option Nat) :
    f_meeting_end.sem [dM b, .int len, dM a] = .ok (dM (greM [b.map (· + len), a])) [] := by
  have q1 := s_nminute b
  have q2 := s_ncount len
  have q3 := s_nminute a
  have q4 := s_later_by b len
  have q5 : f_greatest.sem [.lst [dM (b.map (· + len)), dM a]] = _ := s_greatest [b.map (· + len), a] (by show 2 ≤ BIG; decide)
  have hb : 2 ≤ BIG := by decide
  show semB g_meeting_end 3 none b_meeting_end [dM b, .int len, dM a] = _
  unfold semB b_meeting_end
  generalize b.map (· + len) = c at q4 q5 ⊢
  simp [evSs, evS, evs, evr, truR, startE, cellsF, cellF, evq_c, evq_v, evq_bin, evq_cmp, evq_chn, evq_and_, evq_or_, evq_not_, evq_neg, evq_ite, evq_tup, evq_lst, evq_ix, evq_blt, evq_isin, R.bind, R.take, R.toS, SR.seq, takeO, rdO, cellAt, content, truD, runF, outE, lift, cl_meeting_end_0, cl_meeting_end_1, cl_meeting_end_2, cl_meeting_end_3, q1, q2, q3, q4, q5, hb]
theorem s_meeting_row (opens len q : Nat) (as : List (Option Nat)) (h1 : 1 ≤ q) (h2 : q ≤ as.length) (hl : as.length ≤ BIG) :
    f_meeting_row.sem [.int opens, .int len, .int q, .lst (as.map dM)] = .ok (dR (meetM opens len q as)) [] := by
  have q1 := s_ncount opens
  have q2 := s_ncount len
  have q3 := s_meeting_begin opens q as h1 h2 hl
  generalize hb : greM [some opens, nthM as q] = b at q3
  have L : ev g_meeting_row (.lc (.name 5) (.seq (.v 3)) none (.tup [.v 4, .call 2 [.v 4, .v 1, .v 5]]) [5]) [some (.dat (.int opens)), some (.dat (.int len)), some (.dat (.int q)), some (.dat (.lst (as.map dM))), some (.dat (dM b)), none] = .ok (.val (dR (meetM opens len q as))) [some (.dat (.int opens)), some (.dat (.int len)), some (.dat (.int q)), some (.dat (.lst (as.map dM))), some (.dat (dM b)), none] := by
    obtain ⟨xs, env', e1, ⟨x, hx, e2⟩, e3⟩ := ev_lc_rel (G := g_meeting_row) (own := [5]) (tg := .name 5) (it := .seq (.v 3)) (t := none) (e := .tup [.v 4, .call 2 [.v 4, .v 1, .v 5]]) (env := [some (.dat (.int opens)), some (.dat (.int len)), some (.dat (.int q)), some (.dat (.lst (as.map dM))), some (.dat (dM b)), none]) (env0 := [some (.dat (.int opens)), some (.dat (.int len)), some (.dat (.int q)), some (.dat (.lst (as.map dM))), some (.dat (dM b)), none]) (ds := as.map dM)
      (fun e => ∃ x, frC x = true ∧ e = [some (.dat (.int opens)), some (.dat (.int len)), some (.dat (.int q)), some (.dat (.lst (as.map dM))), some (.dat (dM b)), x]) (fun _ => False) (fun d x => ∃ a, d = dM a ∧ x = dP (b, greM [b.map (· + len), a])) rfl (by simpa using hl) rfl rfl ⟨none, rfl, rfl⟩
      (fun d hd env hI => by
        obtain ⟨a, _, rfl⟩ := List.mem_map.mp hd
        obtain ⟨x, hx, rfl⟩ := hI
        refine ⟨[some (.dat (.int opens)), some (.dat (.int len)), some (.dat (.int q)), some (.dat (.lst (as.map dM))), some (.dat (dM b)), some (.dat (dM a))], rfl, .inr ⟨_, dP (b, greM [b.map (· + len), a]), _, rfl, ?_, ⟨some (.dat (dM a)), rfl, rfl⟩, a, rfl, rfl⟩⟩
        have q4 := s_meeting_end b len a
        have hb : 2 ≤ BIG := by decide
        unfold dP
        generalize greM [b.map (· + len), a] = c at q4 ⊢
        simp [evSs, evS, evs, evr, truR, startE, cellsF, cellF, evq_c, evq_v, evq_bin, evq_cmp, evq_chn, evq_and_, evq_or_, evq_not_, evq_neg, evq_ite, evq_tup, evq_lst, evq_ix, evq_blt, evq_isin, R.bind, R.take, R.toS, SR.seq, takeO, rdO, cellAt, content, truD, runF, outE, lift, cl_meeting_row_2, q4, hb])
    rw [e1, e2]
    have e : xs = (meetM opens len q as).map dP := by
      unfold meetM
      rw [hb]
      clear e1 e2 q3 h2 hl hb
      generalize hds : as.map dM = ds at e3
      induction e3 generalizing as with
      | nil => cases as with
        | nil => rfl
        | cons _ _ => cases hds
      | skip h _ _ => exact h.elim
      | take h _ ih => cases as with
        | nil => cases hds
        | cons p r =>
          obtain ⟨q, e1, e2⟩ := h
          cases hds
          have e3 : p = q := dM_inj e1
          subst e3
          rw [e2, ih r rfl]; rfl
    rw [e]
    rfl
  show semB g_meeting_row 6 none b_meeting_row [.int opens, .int len, .int q, .lst (as.map dM)] = _
  unfold semB b_meeting_row
  simp [evSs, evS, evs, evr, truR, startE, cellsF, cellF, evq_c, evq_v, evq_bin, evq_cmp, evq_chn, evq_and_, evq_or_, evq_not_, evq_neg, evq_ite, evq_tup, evq_lst, evq_ix, evq_blt, evq_isin, R.bind, R.take, R.toS, SR.seq, takeO, rdO, cellAt, content, truD, runF, outE, lift, cl_meeting_row_0, cl_meeting_row_1, q1, q2, q3, bindT, freeB_eq, L]
theorem s_room_begin (a e : Option Nat) (turn : Nat) : f_room_begin.sem [dM a, dM e, .int turn] = .ok (dM (greM [a, e.map (· + turn)])) [] := by
  have q1 := s_nminute a
  have q2 := s_nminute e
  have q3 := s_ncount turn
  have q4 := s_later_by e turn
  have q5 : f_greatest.sem [.lst [dM a, dM (e.map (· + turn))]] = _ := s_greatest [a, e.map (· + turn)] (by show 2 ≤ BIG; decide)
  have hb : 2 ≤ BIG := by decide
  show semB g_room_begin 3 none b_room_begin [dM a, dM e, .int turn] = _
  unfold semB b_room_begin
  generalize e.map (· + turn) = c at q4 q5 ⊢
  simp [evSs, evS, evs, evr, truR, startE, cellsF, cellF, evq_c, evq_v, evq_bin, evq_cmp, evq_chn, evq_and_, evq_or_, evq_not_, evq_neg, evq_ite, evq_tup, evq_lst, evq_ix, evq_blt, evq_isin, R.bind, R.take, R.toS, SR.seq, takeO, rdO, cellAt, content, truD, runF, outE, lift, cl_room_begin_0, cl_room_begin_1, cl_room_begin_2, cl_room_begin_3, q1, q2, q3, q4, q5, hb]
theorem s_room_end (b : Option Nat) (n : Nat) : f_room_end.sem [dM b, .int n] = .ok (dM (b.map (· + n))) [] := by
  have q1 := s_nminute b
  have q2 := s_ncount n
  have q3 := s_later_by b n
  show semB g_room_end 2 none b_room_end [dM b, .int n] = _
  unfold semB b_room_end
  generalize b.map (· + n) = c at q3 ⊢
  simp [evSs, evS, evs, evr, truR, startE, cellsF, cellF, evq_c, evq_v, evq_bin, evq_cmp, evq_chn, evq_and_, evq_or_, evq_not_, evq_neg, evq_ite, evq_tup, evq_lst, evq_ix, evq_blt, evq_isin, R.bind, R.take, R.toS, SR.seq, takeO, rdO, cellAt, content, truD, runF, outE, lift, cl_room_end_0, cl_room_end_1, cl_room_end_2, q1, q2, q3]
theorem s_guest_end (b : Option Nat) (n c : Nat) (a : Option Nat) : f_guest_end.sem [dM b, .int n, .int c, dM a] = .ok (dM (lesM (b.map (· + n)) ((greM [b, a]).map (· + c)))) [] := by
  have q1 := s_nminute b
  have q2 := s_ncount n
  have q3 := s_ncount c
  have q4 := s_nminute a
  have q5 := s_later_by b n
  have q6 : f_greatest.sem [.lst [dM b, dM a]] = _ := s_greatest [b, a] (by show 2 ≤ BIG; decide)
  have q7 := s_later_by (greM [b, a]) c
  have q8 := s_lesser (b.map (· + n)) ((greM [b, a]).map (· + c))
  have hb : 2 ≤ BIG := by decide
  show semB g_guest_end 4 none b_guest_end [dM b, .int n, .int c, dM a] = _
  unfold semB b_guest_end lesM
  generalize (greM [b, a]).map (· + c) = z at q7 q8 ⊢
  generalize b.map (· + n) = y at q5 q8 ⊢
  generalize greM [b, a] = w at q6 q7 ⊢
  generalize (if ltM z y = true then z else y) = v at q8 ⊢
  simp [evSs, evS, evs, evr, truR, startE, cellsF, cellF, evq_c, evq_v, evq_bin, evq_cmp, evq_chn, evq_and_, evq_or_, evq_not_, evq_neg, evq_ite, evq_tup, evq_lst, evq_ix, evq_blt, evq_isin, R.bind, R.take, R.toS, SR.seq, takeO, rdO, cellAt, content, truD, runF, outE, lift, cl_guest_end_0, cl_guest_end_1, cl_guest_end_2, cl_guest_end_3, cl_guest_end_4, q1, q2, q3, q4, q5, q6, q7, q8, hb]
end Mp
set_option maxHeartbeats 4000000
namespace Mp
open PySem L2
variable [TabsW] [GdW]
theorem at_map {α : Type} (f : α → D) (l : List α) (p : Nat) (x : α) (h : l[p]? = some x) : atI (l.map f) (p : Int) = some (f x) := by
  have hp : p < l.length := (List.getElem?_eq_some_iff.mp h).1
  unfold atI
  rw [ix_in' (by omega) (by simp; omega)]
  show (l.map f)[(p : Int).toNat]? = _
  rw [Int.toNat_natCast, List.getElem?_map, h]
  rfl
theorem s_notices (cs : List (Option Nat)) (hl : cs.length ≤ BIG) : f_need_notices.sem [.lst (cs.map dM), .int cs.length] = .ok .non [] := by
  have L : ev g_need_notices (.lc (.name 2) (.seq (.v 0)) none (.or_ (.cmp .is_ (.v 2) (.c .non)) (.call 1 [.v 2])) [2]) [some (.dat (.lst (cs.map dM))), some (.dat (.int cs.length)), none] = .ok (.val (.lst (List.replicate cs.length (D.bl true)))) [some (.dat (.lst (cs.map dM))), some (.dat (.int cs.length)), none] := by
    have := ev_lc_run (G := g_need_notices) (i := 2) (it := .seq (.v 0)) (t := none) (e := .or_ (.cmp .is_ (.v 2) (.c .non)) (.call 1 [.v 2])) (env := [some (.dat (.lst (cs.map dM))), some (.dat (.int cs.length)), none]) (env0 := [some (.dat (.lst (cs.map dM))), some (.dat (.int cs.length)), none]) (ds := cs.map dM) (fun _ => true) (fun _ => .bl true) rfl (by simpa using hl) rfl (by simp) (fun d hd => rfl) (fun d hd _ => by
      obtain ⟨m, _, rfl⟩ := List.mem_map.mp hd
      cases m with
      | none => rfl
      | some m =>
        have q := s_count m
        simp [evSs, evS, evs, evr, truR, startE, cellsF, cellF, evq_c, evq_v, evq_bin, evq_cmp, evq_chn, evq_and_, evq_or_, evq_not_, evq_neg, evq_ite, evq_tup, evq_lst, evq_ix, evq_blt, evq_isin, R.bind, R.take, R.toS, SR.seq, takeO, rdO, cellAt, content, truD, runF, outE, lift, cl_need_notices_1, cmpD, isNon, dM, q])
    rw [this]
    congr 3
    rw [List.map_const', List.filter_eq_self.mpr (fun _ _ => rfl)]
    simp
  have hlen : (cs.map dM).length = cs.length := by simp
  have hd : cmpD .ne (.int (cs.length : Int)) (.int (cs.length : Int)) = some false := by simp [cmpD, dataD, eqD]
  show semB g_need_notices 3 none b_need_notices [.lst (cs.map dM), .int cs.length] = _
  unfold semB b_need_notices
  simp [evSs, evS, evs, evr, truR, startE, cellsF, cellF, evq_c, evq_v, evq_bin, evq_cmp, evq_chn, evq_and_, evq_or_, evq_not_, evq_neg, evq_ite, evq_tup, evq_lst, evq_ix, evq_blt, evq_isin, R.bind, R.take, R.toS, SR.seq, takeO, rdO, cellAt, content, truD, runF, outE, lift, cl_need_notices_0, s_is_listed, L, all_true, len_lst, hlen, hd]
def bRR : List ST := [.asg (.name 7) (.ite (.v 4) (.call 4 [.v 6, .ix (.ix (.v 4) (.neg (.c (.int 1)))) (.c (.int 1)), .v 2]) (.v 6)), .if_ (.or_ (.cmp .is_ (.ix (.v 3) (.v 5)) (.c .non)) (.cmp .eq (.bin .add (.v 5) (.c (.int 1))) (.blt .len [.v 0]))) [.asg (.name 8) (.call 5 [.v 7, .ix (.v 1) (.v 5)])] [.asg (.name 8) (.call 6 [.v 7, .ix (.v 1) (.v 5), .ix (.v 3) (.v 5), .ix (.v 0) (.bin .add (.v 5) (.c (.int 1)))])], .expr (.app 4 (.tup [.v 7, .v 8]))]
section
variable (as : List (Option Nat)) (ns : List Nat) (cs : List (Option Nat)) (turn : Nat)
def envR (r : Row) (x5 x6 x7 x8 : Option Cell) : Env := [some (.dat (.lst (as.map dM))), some (.dat (.lst (dNs ns))), some (.dat (.int turn)), some (.dat (.lst (cs.map dM))), some (.own (r.map dP)), x5, x6, x7, x8]
/-- the begin of a room's place -/
def rbeg (r : Row) (a : Option Nat) : Option Nat := match r.getLast? with
    | none => a
    | some q => greM [a, q.2.map (· + turn)]
theorem rr_begin (r : Row) (p : Nat) (a : Option Nat) (x7 x8 : Option Cell) : ev g_room_row (.ite (.v 4) (.call 4 [.v 6, .ix (.ix (.v 4) (.neg (.c (.int 1)))) (.c (.int 1)), .v 2]) (.v 6)) (envR as ns cs turn r (some (.dat (.int p))) (some (.dat (dM a))) x7 x8) = .ok (.val (dM (rbeg turn r a))) (envR as ns cs turn r (some (.dat (.int p))) (some (.dat (dM a))) x7 x8) := by
  unfold envR
  by_cases h : r = []
  · subst h
    simp [evSs, evS, evs, evr, truR, startE, cellsF, cellF, evq_c, evq_v, evq_bin, evq_cmp, evq_chn, evq_and_, evq_or_, evq_not_, evq_neg, evq_ite, evq_tup, evq_lst, evq_ix, evq_blt, evq_isin, R.bind, R.take, R.toS, SR.seq, takeO, rdO, cellAt, content, truD, runF, outE, lift, rbeg]
  · obtain ⟨q, h1, h2⟩ := last_row r h
    have h3 : r.isEmpty = false := by cases r with
      | nil => exact absurd rfl h
      | cons _ _ => rfl
    have e : rbeg turn r a = greM [a, q.2.map (· + turn)] := by unfold rbeg; rw [h1]
    have h4 : atI [dM q.1, dM q.2] 1 = some (dM q.2) := rfl
    have h5 := s_room_begin a q.2 turn
    rw [e]
    generalize greM [a, q.2.map (· + turn)] = z at h5 ⊢
    simp [evSs, evS, evs, evr, truR, startE, cellsF, cellF, evq_c, evq_v, evq_bin, evq_cmp, evq_chn, evq_and_, evq_or_, evq_not_, evq_neg, evq_ite, evq_tup, evq_lst, evq_ix, evq_blt, evq_isin, R.bind, R.take, R.toS, SR.seq, takeO, rdO, cellAt, content, truD, runF, outE, lift, h3, ixD, h2, dP, h4, cl_room_row_4, h5]
theorem rr_turn (hns : ns.length = as.length) (hcs : cs.length = as.length) (p : Nat) (a : Option Nat) (ha : as[p]? = some a) (r : Row) (hr : r.length < BIG) (x7 x8 : Option Cell) (h7 : frC x7 = true) (h8 : frC x8 = true) :
    ∃ y7 y8, frC y7 = true ∧ frC y8 = true ∧ evSs g_room_row bRR (envR as ns cs turn r (some (.dat (.int p))) (some (.dat (dM a))) x7 x8) = .nx (envR as ns cs turn (r ++ [rpair as ns cs turn r p]) (some (.dat (.int p))) (some (.dat (dM a))) y7 y8) := by
  have hp : p < as.length := (List.getElem?_eq_some_iff.mp ha).1
  obtain ⟨n, hn⟩ : ∃ n, ns[p]? = some n := ⟨_, List.getElem?_eq_getElem (by omega)⟩
  obtain ⟨c, hc⟩ : ∃ c, cs[p]? = some c := ⟨_, List.getElem?_eq_getElem (by omega)⟩
  have q1 := rr_begin as ns cs turn r p a x7 x8
  have a1 : atI (dNs ns) (p : Int) = some (.int n) := at_map _ ns p n hn
  have a2 : atI (cs.map dM) (p : Int) = some (dM c) := at_map _ cs p c hc
  have hb : 2 ≤ BIG := by decide
  have hlen : (as.map dM).length = as.length := by simp
  have eb : (rpair as ns cs turn r p).1 = rbeg turn r a := by
    unfold rpair rbeg
    rw [ha]; rfl
  generalize hB : rbeg turn r a = b at q1 eb
  have q2 := s_room_end b n
  cases c with
  | none =>
    have ee : (rpair as ns cs turn r p).2 = b.map (· + n) := by
      have : (rpair as ns cs turn r p).2 = (rpair as ns cs turn r p).1.map (· + n) := by
        unfold rpair; dsimp only; rw [hc, hn]; rfl
      rw [this, eb]
    have e : rpair as ns cs turn r p = (b, b.map (· + n)) := Prod.ext eb ee
    rw [e]
    refine ⟨some (.dat (dM b)), some (.dat (dM (b.map (· + n)))), rfl, rfl, ?_⟩
    generalize b.map (· + n) = z at q2 ⊢
    have a2 : atI (cs.map dM) (p : Int) = some .non := a2
    unfold bRR
    unfold envR at q1 ⊢
    simp [evSs, evS, evs, evr, truR, startE, cellsF, cellF, evq_c, evq_v, evq_bin, evq_cmp, evq_chn, evq_and_, evq_or_, evq_not_, evq_neg, evq_ite, evq_tup, evq_lst, evq_ix, evq_blt, evq_isin, R.bind, R.take, R.toS, SR.seq, takeO, rdO, cellAt, content, truD, runF, outE, lift, q1, bindT, freeB_eq, h7, h8, cl_room_row_5, q2, ixD, a1, a2, cmpD, isNon, evq_app, ownB, hr, hb, dP]
  | some c =>
    have a2 : atI (cs.map dM) (p : Int) = some (.int c) := a2
    by_cases hz : p + 1 = as.length
    · have ee : (rpair as ns cs turn r p).2 = b.map (· + n) := by
        have : (rpair as ns cs turn r p).2 = (rpair as ns cs turn r p).1.map (· + n) := by
          unfold rpair; dsimp only; rw [hc, hn]; dsimp only [Option.getD]; rw [if_pos hz]
        rw [this, eb]
      have e : rpair as ns cs turn r p = (b, b.map (· + n)) := Prod.ext eb ee
      rw [e]
      refine ⟨some (.dat (dM b)), some (.dat (dM (b.map (· + n)))), rfl, rfl, ?_⟩
      generalize b.map (· + n) = z at q2 ⊢
      have hd : cmpD .eq (.int ((p : Int) + 1)) (.int (as.length : Int)) = some true := by
        have : ((p : Int) + 1) = (as.length : Int) := by omega
        simp [cmpD, dataD, eqD, this]
      have hi : cmpD .is_ (.int (c : Int)) .non = some false := rfl
      unfold bRR
      unfold envR at q1 ⊢
      simp [evSs, evS, evs, evr, truR, startE, cellsF, cellF, evq_c, evq_v, evq_bin, evq_cmp, evq_chn, evq_and_, evq_or_, evq_not_, evq_neg, evq_ite, evq_tup, evq_lst, evq_ix, evq_blt, evq_isin, R.bind, R.take, R.toS, SR.seq, takeO, rdO, cellAt, content, truD, runF, outE, lift, q1, bindT, freeB_eq, h7, h8, cl_room_row_5, q2, ixD, a1, a2, hd, hi, binD, addD, len_lst, hlen, evq_app, ownB, hr, hb, dP]
    · obtain ⟨a', ha'⟩ : ∃ a', as[p + 1]? = some a' := ⟨_, List.getElem?_eq_getElem (by omega)⟩
      have a3 : atI (as.map dM) ((p : Int) + 1) = some (dM a') := at_map _ as (p + 1) a' ha'
      have q3 := s_guest_end b n c a'
      have ee : (rpair as ns cs turn r p).2 = lesM (b.map (· + n)) ((greM [b, a']).map (· + c)) := by
        have : (rpair as ns cs turn r p).2 = lesM ((rpair as ns cs turn r p).1.map (· + n)) ((greM [(rpair as ns cs turn r p).1, a']).map (· + c)) := by
          unfold rpair; dsimp only; rw [hc, hn, ha']; dsimp only [Option.getD]; rw [if_neg hz]
        rw [this, eb]
      have e : rpair as ns cs turn r p = (b, lesM (b.map (· + n)) ((greM [b, a']).map (· + c))) := Prod.ext eb ee
      rw [e]
      refine ⟨some (.dat (dM b)), some (.dat (dM (lesM (b.map (· + n)) ((greM [b, a']).map (· + c))))), rfl, rfl, ?_⟩
      generalize lesM (b.map (· + n)) ((greM [b, a']).map (· + c)) = z at q3 ⊢
      have hd : cmpD .eq (.int ((p : Int) + 1)) (.int (as.length : Int)) = some false := by
        have : ¬ ((p : Int) + 1) = (as.length : Int) := by omega
        simp [cmpD, dataD, eqD, this]
      have hi : cmpD .is_ (.int (c : Int)) .non = some false := rfl
      unfold bRR
      unfold envR at q1 ⊢
      simp [evSs, evS, evs, evr, truR, startE, cellsF, cellF, evq_c, evq_v, evq_bin, evq_cmp, evq_chn, evq_and_, evq_or_, evq_not_, evq_neg, evq_ite, evq_tup, evq_lst, evq_ix, evq_blt, evq_isin, R.bind, R.take, R.toS, SR.seq, takeO, rdO, cellAt, content, truD, runF, outE, lift, q1, bindT, freeB_eq, h7, h8, cl_room_row_6, q3, ixD, a1, a2, a3, hd, hi, binD, addD, len_lst, hlen, evq_app, ownB, hr, hb, dP]
theorem room_loop (hns : ns.length = as.length) (hcs : cs.length = as.length) (hl : as.length ≤ BIG) : ∀ (l : List (Option Nat)) (p : Nat) (x5 x6 x7 x8 : Option Cell), as.drop p = l → p ≤ as.length → frC x5 = true → frC x6 = true → frC x7 = true → frC x8 = true →
    ∃ y5 y6 y7 y8, forL (.tup [5, 6]) (fun e => evSs g_room_row bRR e) (enumD p (l.map dM)) (envR as ns cs turn (roomI as ns cs turn p) x5 x6 x7 x8) = .nx (envR as ns cs turn (roomM as ns cs turn) y5 y6 y7 y8)
  | [], p, x5, x6, x7, x8, hd, hp, _, _, _, _ => by
    have : as.length ≤ p := List.drop_eq_nil_iff.mp hd
    have e : p = as.length := by omega
    subst e
    exact ⟨x5, x6, x7, x8, rfl⟩
  | a :: l, p, x5, x6, x7, x8, hd, hp, h5, h6, h7, h8 => by
    have ha : as[p]? = some a := by
      have : (as.drop p)[0]? = some a := by rw [hd]; rfl
      simpa using this
    have hp' : p < as.length := (List.getElem?_eq_some_iff.mp ha).1
    obtain ⟨z7, z8, g7, g8, ht⟩ := rr_turn as ns cs turn hns hcs p a ha (roomI as ns cs turn p) (by rw [roomI_len]; omega) x7 x8 h7 h8
    have hd' : as.drop (p + 1) = l := by
      have : (as.drop p).drop 1 = l := by rw [hd]; rfl
      rwa [List.drop_drop] at this
    obtain ⟨y5, y6, y7, y8, h⟩ := room_loop hns hcs hl l (p + 1) (some (.dat (.int p))) (some (.dat (dM a))) z7 z8 hd' (by omega) rfl rfl g7 g8
    refine ⟨y5, y6, y7, y8, ?_⟩
    have hb : bindT (.tup [5, 6]) (.tup [.int p, dM a]) (envR as ns cs turn (roomI as ns cs turn p) x5 x6 x7 x8) = some (envR as ns cs turn (roomI as ns cs turn p) (some (.dat (.int p))) (some (.dat (dM a))) x7 x8) := by
      unfold bindT envR
      simp [freeB_eq, h5, h6]
    rw [List.map_cons, enumD, forL, hb]
    dsimp only
    rw [ht]
    exact h
theorem s_room_row (hns : ns.length = as.length) (hcs : cs.length = as.length) (hl : as.length ≤ BIG) :
    f_room_row.sem [.lst (as.map dM), .lst (dNs ns), .int turn, .lst (cs.map dM)] = .ok (dR (roomM as ns cs turn)) [] := by
  have q1 := s_need_minutes (.str "arrivals") as hl
  have q2 := s_lengths ns (by omega)
  rw [hns] at q2
  have q3 := s_ncount turn
  have q4 := s_notices cs (by omega)
  rw [hcs] at q4
  have hlen : (as.map dM).length = as.length := by simp
  obtain ⟨y5, y6, y7, y8, hf⟩ := room_loop as ns cs turn hns hcs hl as 0 none none none none rfl (by omega) rfl rfl rfl rfl
  have e : evi g_room_row (.enum (.v 0)) (envR as ns cs turn [] none none none none) = .ok (enumD 0 (as.map dM)) (envR as ns cs turn [] none none none none) := rfl
  have hf : forL (.tup [5, 6]) (fun e => evSs g_room_row bRR e) (enumD 0 (as.map dM)) (envR as ns cs turn [] none none none none) = .nx (envR as ns cs turn (roomM as ns cs turn) y5 y6 y7 y8) := hf
  generalize enumD 0 (as.map dM) = zs at e hf
  unfold envR at e hf
  rw [List.map_nil] at e hf
  have e0 : b_room_row = [.expr (.call 0 [.c (.str "arrivals"), .v 0]), .expr (.call 1 [.v 1, .blt .len [.v 0]]), .expr (.call 2 [.v 2]), .expr (.call 3 [.v 3, .blt .len [.v 0]]), .new 4 (.lst []), .for_ (.tup [5, 6]) (.enum (.v 0)) bRR, .ret (.v 4)] := rfl
  show semB g_room_row 9 none b_room_row [.lst (as.map dM), .lst (dNs ns), .int turn, .lst (cs.map dM)] = _
  unfold semB
  rw [e0]
  simp [evSs, evS, evs, evr, truR, startE, cellsF, cellF, evq_c, evq_v, evq_bin, evq_cmp, evq_chn, evq_and_, evq_or_, evq_not_, evq_neg, evq_ite, evq_tup, evq_lst, evq_ix, evq_blt, evq_isin, R.bind, R.take, R.toS, SR.seq, takeO, rdO, cellAt, content, truD, runF, outE, lift, cl_room_row_0, cl_room_row_1, cl_room_row_2, cl_room_row_3, q1, q2, q3, q4, len_lst, hlen, evL, freeB_eq, e, hf]
  rfl
end
end Mp
set_option maxHeartbeats 4000000
namespace Mp
open PySem L2
variable [TabsW] [GdW]
/-- the state of the draws -/
def src (a b : Int) : List D := [.int a, .int b]
theorem io_call {G : Ctx} {j i : Nat} {f : Fn} {es : List IR} {env env' : Env} {ds ds' out vs : List D} {d : D} (hj : G.fns[j]? = some f) (hio : f.io = some 0) (hn : es.length + 1 = f.n) (hi : env[i]? = some (some (.io ds)))
    (he : evs G es env = .ok vs env') (hi' : env'[i]? = some (some (.io ds'))) (hs : f.sem (.lst ds' :: vs) = .ok d out) : ev G (.call j (.v i :: es)) env = .ok (.val d) (env'.set i (some (.io out))) := by
  rw [ev_call_io hj hio hn (.inr hi), he]
  have hc : cellAt env' i = some (.io ds') := by unfold cellAt; rw [hi']; rfl
  show (match (cellAt env' i).map content with
      | some d0 => frR env' (some 0) [i] (f.sem (d0 :: vs))
      | none => .bad) = _
  rw [hc]
  show frR env' (some 0) [i] (f.sem (.lst ds' :: vs)) = _
  rw [hs]
  unfold frR
  dsimp only
  rw [hc]
theorem own_call {G : Ctx} {j i : Nat} {f : Fn} {es : List IR} {env env' : Env} {ds ds' out vs : List D} {d : D} (hj : G.fns[j]? = some f) (hio : f.io = some 0) (hn : es.length + 1 = f.n) (hi : env[i]? = some (some (.own ds)))
    (he : evs G es env = .ok vs env') (hi' : env'[i]? = some (some (.own ds'))) (hs : f.sem (.lst ds' :: vs) = .ok d out) : ev G (.call j (.v i :: es)) env = .ok (.val d) (env'.set i (some (.own out))) := by
  rw [ev_call_io hj hio hn (.inl hi), he]
  have hc : cellAt env' i = some (.own ds') := by unfold cellAt; rw [hi']; rfl
  show (match (cellAt env' i).map content with
      | some d0 => frR env' (some 0) [i] (f.sem (d0 :: vs))
      | none => .bad) = _
  rw [hc]
  show frR env' (some 0) [i] (f.sem (.lst ds' :: vs)) = _
  rw [hs]
  unfold frR
  dsimp only
  rw [hc]
theorem s_take (a b : Int) (t : Nat) (h0 : 0 < t) (h1 : t < 1073741824) : ∃ (d : Nat) (a' b' : Int), d < t ∧ f__law_take.sem [.lst (src a b), .int t] = .ok (.int d) (src a' b') := by
  have ht : (0 : Int) < (t : Int) := by omega
  have ht2 : (t : Int) < 1073741824 := by omega
  by_cases ha : 0 < a
  · refine ⟨(a % t).toNat, a / t, b, ?_, ?_⟩
    · have := Int.emod_lt_of_pos a ht
      have := Int.emod_nonneg a (Int.ne_of_gt ht)
      omega
    · have e : (((a % t).toNat : Nat) : Int) = a % t := Int.toNat_of_nonneg (Int.emod_nonneg a (Int.ne_of_gt ht))
      have g0 : atI [D.int a, D.int b] 0 = some (.int a) := rfl
      have gi (i : Int) : bltD .int [.int i] = some (.int i) := rfl
      show semB g__law_take 3 (some 0) b__law_take [.lst (src a b), .int t] = _
      unfold semB b__law_take
      rw [e]
      simp [evSs, evS, evs, evr, truR, startE, cellsF, cellF, evq_c, evq_v, evq_bin, evq_cmp, evq_chn, evq_and_, evq_or_, evq_not_, evq_neg, evq_ite, evq_tup, evq_lst, evq_ix, evq_blt, evq_isin, R.bind, R.take, R.toS, SR.seq, takeO, rdO, cellAt, content, truD, runF, outE, lift, src, ixD, g0, cmpD, ha, gi, binD, modD, fdivD, ht, ht2, h0, h1, bindT, freeB_eq, placeB, List.lookup, R.rd]
  · refine ⟨((((b * 39373 + 7) % 2147483647 * ((b * 39373 + 7) % 2147483647)) % 2147483629 / 32) % t).toNat, a, (b * 39373 + 7) % 2147483647, ?_, ?_⟩
    · have := Int.emod_lt_of_pos (((b * 39373 + 7) % 2147483647 * ((b * 39373 + 7) % 2147483647)) % 2147483629 / 32) ht
      have := Int.emod_nonneg (((b * 39373 + 7) % 2147483647 * ((b * 39373 + 7) % 2147483647)) % 2147483629 / 32) (Int.ne_of_gt ht)
      omega
    · have e : (((((((b * 39373 + 7) % 2147483647 * ((b * 39373 + 7) % 2147483647)) % 2147483629 / 32) % t).toNat) : Nat) : Int) = (((b * 39373 + 7) % 2147483647 * ((b * 39373 + 7) % 2147483647)) % 2147483629 / 32) % t := Int.toNat_of_nonneg (Int.emod_nonneg _ (Int.ne_of_gt ht))
      rw [e]
      have c0 : (0 : Int) ≤ (b * 39373 + 7) % 2147483647 := Int.emod_nonneg _ (by decide)
      have c1 : (b * 39373 + 7) % 2147483647 < 2147483647 := Int.emod_lt_of_pos _ (by decide)
      have m1 : mulD (.int b) (.int 39373) = some (.int (b * 39373)) := by unfold mulD; exact if_pos (.inr (by decide))
      generalize hc : (b * 39373 + 7) % 2147483647 = c at c0 c1 ⊢
      have m2 : mulD (.int c) (.int c) = some (.int (c * c)) := by unfold mulD; exact if_pos (.inl (by omega))
      have g0 : atI [D.int a, D.int b] 0 = some (.int a) := rfl
      have g1 : atI [D.int a, D.int b] 1 = some (.int b) := rfl
      have g2 : atI [D.int a, D.int c] 1 = some (.int c) := rfl
      have gi (i : Int) : bltD .int [.int i] = some (.int i) := rfl
      show semB g__law_take 3 (some 0) b__law_take [.lst (src a b), .int t] = _
      unfold semB b__law_take
      simp [evSs, evS, evs, evr, truR, startE, cellsF, cellF, evq_c, evq_v, evq_bin, evq_cmp, evq_chn, evq_and_, evq_or_, evq_not_, evq_neg, evq_ite, evq_tup, evq_lst, evq_ix, evq_blt, evq_isin, R.bind, R.take, R.toS, SR.seq, takeO, rdO, cellAt, content, truD, runF, outE, lift, src, ixD, g0, g1, g2, cmpD, ha, gi, binD, modD, fdivD, addD, m1, m2, hc, ht, ht2, h0, h1, bindT, freeB_eq, placeB, R.rd]
end Mp
set_option maxHeartbeats 400000
namespace Mp
open PySem L2
variable [TabsW] [GdW]
theorem s_one (a b : Int) (ds : List D) (h0 : 0 < ds.length) (h1 : ds.length < 1073741824) : ∃ (d : D) (a' b' : Int), d ∈ ds ∧ f__law_one.sem [.lst (src a b), .lst ds] = .ok d (src a' b') := by
  obtain ⟨d, a', b', hd, h⟩ := s_take a b ds.length h0 h1
  refine ⟨ds[d], a', b', List.getElem_mem _, ?_⟩
  have hx : atI ds (d : Int) = some ds[d] := by
    unfold atI
    rw [ix_in' (by omega) (by omega)]
    show ds[(d : Int).toNat]? = _
    rw [Int.toNat_natCast]; exact List.getElem?_eq_getElem hd
  have L : evs g__law_one [.blt .len [.v 1]] [some (.io (src a b)), some (.dat (.lst ds))] = .ok [.int ds.length] [some (.io (src a b)), some (.dat (.lst ds))] := rfl
  have C := io_call (G := g__law_one) (j := 0) (i := 0) (f := f__law_take) (env := [some (.io (src a b)), some (.dat (.lst ds))]) rfl rfl rfl rfl L rfl h
  show semB g__law_one 2 (some 0) b__law_one [.lst (src a b), .lst ds] = _
  unfold semB b__law_one
  generalize hs : src a b = s at C ⊢
  simp [evSs, evS, evs, evr, truR, startE, cellsF, cellF, evq_c, evq_v, evq_bin, evq_cmp, evq_chn, evq_and_, evq_or_, evq_not_, evq_neg, evq_ite, evq_tup, evq_lst, evq_ix, evq_blt, evq_isin, R.bind, R.take, R.toS, SR.seq, takeO, rdO, cellAt, content, truD, runF, outE, lift, C, ixD, hx]
theorem s_rounds (ds : List D) : f__law_rounds.sem [.lst ds] = .ok (.lst (iotaD 0 (max 1 (min ds.length 4)))) [] := by
  have e1 : bltD .min2 [.int (ds.length : Int), .int 4] = some (.int ((min ds.length 4 : Nat) : Int)) := by
    show some (D.int (if (4 : Int) < (ds.length : Int) then 4 else (ds.length : Int))) = _
    congr 2; split <;> omega
  have e2 : bltD .max2 [.int 1, .int ((min ds.length 4 : Nat) : Int)] = some (.int ((max 1 (min ds.length 4) : Nat) : Int)) := max_nat 1 (min ds.length 4)
  have hb : BIG = 100000 := rfl
  show semB g__law_rounds 1 none b__law_rounds [.lst ds] = _
  unfold semB b__law_rounds
  generalize hk : max 1 (min ds.length 4) = k at e2 ⊢
  have hk4 : k ≤ 4 := by omega
  have c1 : -1000000 ≤ (k : Int) := by omega
  have c2 : (k : Int) ≤ 100000 := by omega
  generalize min ds.length 4 = l at e1 e2
  simp [evSs, evS, evs, evr, truR, startE, cellsF, cellF, evq_c, evq_v, evq_bin, evq_cmp, evq_chn, evq_and_, evq_or_, evq_not_, evq_neg, evq_ite, evq_tup, evq_lst, evq_ix, evq_blt, evq_isin, R.bind, R.take, R.toS, SR.seq, takeO, rdO, cellAt, content, truD, runF, outE, lift, len_lst, e1, e2, evq_lrng, R.rd, c1, c2, hb]
end Mp
set_option maxHeartbeats 1000000
set_option maxHeartbeats 1000000
namespace Mp
open PySem L2
variable [TabsW] [GdW]
theorem m5t : powD (.int 10) (.int 18) = some (.int (1000000000000000000)) := by
  show (if 0 ≤ (18:Int) ∧ (18:Int) ≤ 1000000 ∧ (10:Int).natAbs < 18446744073709551616 then some (D.int ((10:Int) ^ (18:Int).toNat)) else none) = _
  rw [if_pos (by decide)]
  have : (10 : Int) ^ (18 : Int).toNat = 1000000000000000000 := by decide
  rw [this]
theorem pow_run (env : Env) : ev g__law_pool (.bin .pow (.c (.int 10)) (.c (.int 18))) env = .ok (.val (.int 1000000000000000000)) env := by
  rw [evq_bin, evq_c]
  show (ev g__law_pool (.c (.int 18)) env).bind (fun y e2 => match rdO e2 (.val (.int 10)), rdO e2 y with
    | some p, some q => lift e2 (binD .pow p q)
    | _, _ => .bad) = _
  rw [evq_c]
  show lift env (powD (.int 10) (.int 18)) = _
  rw [m5t]
  rfl
theorem pool_mix (L : List D) (k c g P Q A B C E : Int) (m1 : mulD (.int A) (.int k) = some (.int (A * k))) (m2 : mulD (.int (A * k)) (.int k) = some (.int (A * k * k))) (m3 : mulD (.int B) (.int k) = some (.int (B * k))) (m4 : ∀ x, mulD (.int x) (.int E) = some (.int (x * E)))
    (md : ∀ x, modD (.int x) (.int P) = some (.int (x % P))) (md2 : ∀ x, modD (.int x) (.int Q) = some (.int (x % Q))) :
    evS g__law_pool (.asg (.name 4) (.bin .mod (.blt .int [.bin .mul (.bin .add (.bin .add (.bin .add (.bin .mod (.blt .int [.v 3]) (.c (.int P))) (.bin .mul (.bin .mul (.c (.int A)) (.v 1)) (.v 1))) (.bin .mul (.c (.int B)) (.v 1))) (.c (.int C))) (.c (.int E))]) (.c (.int Q)))) [some (.dat (.lst L)), some (.dat (.int k)), some (.dat (.int c)), some (.dat (.int g)), none] = .nx [some (.dat (.lst L)), some (.dat (.int k)), some (.dat (.int c)), some (.dat (.int g)), some (.dat (.int (((g % P + A * k * k + B * k + C) * E) % Q)))] := by
  have gi (i : Int) : bltD .int [.int i] = some (.int i) := rfl
  have ad (x y : Int) : addD (.int x) (.int y) = some (.int (x + y)) := rfl
  simp [evSs, evS, evs, evr, truR, startE, cellsF, cellF, evq_c, evq_v, evq_bin, evq_cmp, evq_chn, evq_and_, evq_or_, evq_not_, evq_neg, evq_ite, evq_tup, evq_lst, evq_ix, evq_blt, evq_isin, R.bind, R.take, R.toS, SR.seq, takeO, rdO, cellAt, content, truD, runF, outE, lift, gi, binD, ad, m1, m2, m3, m4, md, md2, bindT, freeB_eq]
theorem seq_nx {e : Env} {k : Env → SR} : (SR.nx e).seq k = k e := rfl
theorem s_pool (ns : List Int) (k : Nat) (hk : k < 100) : ∃ a b, f__law_pool.sem [.lst (ns.map .int), .int k] = .ok (.lst (src a b)) [] := by
  obtain ⟨c, hc⟩ : ∃ c : Int, evSs g__law_pool [.asg (.name 2) (.c (.int 0)), .if_ (.cmp .lt (.v 1) (.blt .len [.v 0])) [.asg (.name 2) (.ix (.v 0) (.v 1))] []] [some (.dat (.lst (ns.map .int))), some (.dat (.int k)), none, none, none] = .nx [some (.dat (.lst (ns.map .int))), some (.dat (.int k)), some (.dat (.int c)), none, none] := by
    have hlen : bltD .len [.lst (ns.map .int)] = some (.int ns.length) := by show some (D.int ((ns.map D.int).length : Nat)) = _; simp
    by_cases h : k < ns.length
    · have hx : atI (ns.map D.int) (k : Int) = some (D.int ns[k]) := at_map _ ns k _ (List.getElem?_eq_getElem h)
      have c1 : cmpD .lt (.int (k : Int)) (.int (ns.length : Int)) = some true := by show some (decide _) = _; rw [decide_eq_true (by omega)]
      refine ⟨ns[k], ?_⟩
      generalize ns[k] = z at *
      simp [evSs, evS, evs, evr, truR, startE, cellsF, cellF, evq_c, evq_v, evq_bin, evq_cmp, evq_chn, evq_and_, evq_or_, evq_not_, evq_neg, evq_ite, evq_tup, evq_lst, evq_ix, evq_blt, evq_isin, R.bind, R.take, R.toS, SR.seq, takeO, rdO, cellAt, content, truD, runF, outE, lift, hlen, c1, ixD, hx, bindT, freeB_eq]
    · have c1 : cmpD .lt (.int (k : Int)) (.int (ns.length : Int)) = some false := by show some (decide _) = _; rw [decide_eq_false (by omega)]
      refine ⟨0, ?_⟩
      simp [evSs, evS, evs, evr, truR, startE, cellsF, cellF, evq_c, evq_v, evq_bin, evq_cmp, evq_chn, evq_and_, evq_or_, evq_not_, evq_neg, evq_ite, evq_tup, evq_lst, evq_ix, evq_blt, evq_isin, R.bind, R.take, R.toS, SR.seq, takeO, rdO, cellAt, content, truD, runF, outE, lift, hlen, c1, ixD, bindT, freeB_eq]
  obtain ⟨g, hg⟩ : ∃ g : Int, bltD .max2 [.int c, .int (-1 - c)] = some (.int g) := ⟨_, rfl⟩
  have gi (i : Int) : bltD .int [.int i] = some (.int i) := rfl
  have m1 : mulD (.int 7919) (.int (k : Int)) = some (.int (7919 * k)) := by unfold mulD; exact if_pos (.inl (by decide))
  have m2 : mulD (.int (7919 * (k : Int))) (.int (k : Int)) = some (.int (7919 * k * k)) := by unfold mulD; exact if_pos (.inr (by omega))
  have m3 : mulD (.int 31) (.int (k : Int)) = some (.int (31 * k)) := by unfold mulD; exact if_pos (.inl (by decide))
  have m4 (x : Int) : mulD (.int x) (.int 48271) = some (.int (x * 48271)) := by unfold mulD; exact if_pos (.inr (by decide))
  have m5 : powD (.int 10) (.int 18) = some (.int (1000000000000000000)) := m5t
  obtain ⟨z, hz, m6⟩ : ∃ z : Bool, cmpD .ge (.int g) (.int 1000000000000000000) = some z ∧ mulD (.int g) (.int (if z then 1 else 0)) = some (.int (g * (if z then 1 else 0))) := by
    refine ⟨_, rfl, ?_⟩
    unfold mulD
    exact if_pos (.inr (by split <;> decide))
  have gb (b : Bool) : bltD .int [.bl b] = some (.int (if b then 1 else 0)) := rfl
  have md (x : Int) : modD (.int x) (.int 2147483629) = some (.int (x % 2147483629)) := by unfold modD; exact if_pos (by decide)
  have md2 (x : Int) : modD (.int x) (.int 2147483647) = some (.int (x % 2147483647)) := by unfold modD; exact if_pos (by decide)
  have ad (x y : Int) : addD (.int x) (.int y) = some (.int (x + y)) := rfl
  have sb (x y : Int) : subD (.int x) (.int y) = some (.int (x - y)) := rfl
  have hb : 2 ≤ BIG := by decide
  refine ⟨g * (if z then 1 else 0), ((g % 2147483629 + 7919 * k * k + 31 * k + 17) * 48271) % 2147483647, ?_⟩
  generalize hw : (if z then (1 : Int) else 0) = w at *
  have e0 : b__law_pool = [.asg (.name 2) (.c (.int 0)), .if_ (.cmp .lt (.v 1) (.blt .len [.v 0])) [.asg (.name 2) (.ix (.v 0) (.v 1))] []] ++ [.asg (.name 3) (.blt .max2 [.blt .int [.v 2], .blt .int [.bin .sub (.neg (.c (.int 1))) (.v 2)]]), .asg (.name 4) (.bin .mod (.blt .int [.bin .mul (.bin .add (.bin .add (.bin .add (.bin .mod (.blt .int [.v 3]) (.c (.int 2147483629))) (.bin .mul (.bin .mul (.c (.int 7919)) (.v 1)) (.v 1))) (.bin .mul (.c (.int 31)) (.v 1))) (.c (.int 17))) (.c (.int 48271))]) (.c (.int 2147483647))), .retl (.lst [.bin .mul (.v 3) (.blt .int [.cmp .ge (.v 3) (.bin .pow (.c (.int 10)) (.c (.int 18)))]), .v 4])] := rfl
  have app : ∀ (G : Ctx) (as bs : List ST) (env : Env), evSs G (as ++ bs) env = (evSs G as env).seq fun e => evSs G bs e := by
    intro G as
    induction as with
    | nil => intro bs env; rw [List.nil_append]; conv => rhs; rw [evSs]
             rfl
    | cons s as ih =>
      intro bs env
      rw [List.cons_append, evSs, evSs]
      cases evS G s env with
      | nx e => exact ih bs e
      | _ => rfl
  have st : startE none 5 [D.lst (ns.map .int), D.int k] = [some (.dat (.lst (ns.map .int))), some (.dat (.int k)), none, none, none] := rfl
  obtain ⟨L, hL⟩ : ∃ L, ns.map D.int = L := ⟨_, rfl⟩
  rw [hL] at st hc ⊢
  have S1 : evS g__law_pool (.asg (.name 3) (.blt .max2 [.blt .int [.v 2], .blt .int [.bin .sub (.neg (.c (.int 1))) (.v 2)]])) [some (.dat (.lst L)), some (.dat (.int k)), some (.dat (.int c)), none, none] = .nx [some (.dat (.lst L)), some (.dat (.int k)), some (.dat (.int c)), some (.dat (.int g)), none] := by
    simp [evSs, evS, evs, evr, truR, startE, cellsF, cellF, evq_c, evq_v, evq_bin, evq_cmp, evq_chn, evq_and_, evq_or_, evq_not_, evq_neg, evq_ite, evq_tup, evq_lst, evq_ix, evq_blt, evq_isin, R.bind, R.take, R.toS, SR.seq, takeO, rdO, cellAt, content, truD, runF, outE, lift, gi, hg, binD, sb, bindT, freeB_eq]
  have S2 := pool_mix L k c g 2147483629 2147483647 7919 31 17 48271 m1 m2 m3 m4 md md2
  have S3 (m : Int) : evS g__law_pool (.retl (.lst [.bin .mul (.v 3) (.blt .int [.cmp .ge (.v 3) (.bin .pow (.c (.int 10)) (.c (.int 18)))]), .v 4])) [some (.dat (.lst L)), some (.dat (.int k)), some (.dat (.int c)), some (.dat (.int g)), some (.dat (.int m))] = .rl (src (g * w) m) [some (.dat (.lst L)), some (.dat (.int k)), some (.dat (.int c)), some (.dat (.int g)), some (.dat (.int m))] := by
    simp [evSs, evS, evs, evr, truR, startE, cellsF, cellF, evq_c, evq_v, evq_bin, evq_cmp, evq_chn, evq_and_, evq_or_, evq_not_, evq_neg, evq_ite, evq_tup, evq_lst, evq_ix, evq_blt, evq_isin, R.bind, R.take, R.toS, SR.seq, takeO, rdO, cellAt, content, truD, runF, outE, lift, ↓pow_run, evL, binD, m6, hz, gb, hw, hb, src]
  have T0 : evSs g__law_pool b__law_pool (startE none 5 [D.lst L, D.int k]) = .rl (src (g * w) (((g % 2147483629 + 7919 * k * k + 31 * k + 17) * 48271) % 2147483647)) [some (.dat (.lst L)), some (.dat (.int k)), some (.dat (.int c)), some (.dat (.int g)), some (.dat (.int (((g % 2147483629 + 7919 * k * k + 31 * k + 17) * 48271) % 2147483647)))] := by
    rw [e0, app, st, hc, seq_nx, evSs, S1, seq_nx, evSs, S2, seq_nx, evSs, S3]
    unfold SR.seq
    dsimp only
  have U : f__law_pool.sem [.lst L, .int k] = semBF g__law_pool 5 b__law_pool [.lst L, .int k] := rfl
  rw [U, semBF, T0]
  exact if_pos hb
end Mp
set_option maxHeartbeats 4000000
namespace Mp
open PySem L2
variable [TabsW] [GdW]
theorem mr_rest {d e : D} (ds : List D) (hd : d ∈ [D.int (-1), .bl true, .str "0", .tup [.int 1]]) (he : e ∈ [D.int 0, .int 3, .non, .bl true]) :
    evSs g__law_meeting_refuses (b__law_meeting_refuses.drop 2) [some (.io ds), some (.dat d), some (.dat e)] = .rt (.bl true) [some (.io ds), some (.dat d), some (.dat e)] := by
  simp only [List.mem_cons, List.not_mem_nil, or_false] at hd he
  rcases hd with rfl | rfl | rfl | rfl <;> rcases he with rfl | rfl | rfl | rfl <;> kernel_rfl
theorem s_meeting_refuses (a b : Int) : ∃ a' b', f__law_meeting_refuses.sem [.lst (src a b)] = .ok (.bl true) (src a' b') := by
  obtain ⟨d, a1, b1, hd, h1⟩ := s_one a b [.int (-1), .bl true, .str "0", .tup [.int 1]] (by decide) (by decide)
  obtain ⟨e, a2, b2, he, h2⟩ := s_one a1 b1 [.int 0, .int 3, .non, .bl true] (by decide) (by decide)
  refine ⟨a2, b2, ?_⟩
  have R := mr_rest (src a2 b2) hd he
  clear hd he
  have C1 := io_call (G := g__law_meeting_refuses) (j := 0) (i := 0) (f := f__law_one) (es := [.lst [.neg (.c (.int 1)), .c (.bl true), .c (.str "0"), .tup [.c (.int 1)]]]) (env := [some (.io (src a b)), none, none]) rfl rfl rfl rfl rfl rfl h1
  have C2 := io_call (G := g__law_meeting_refuses) (j := 0) (i := 0) (f := f__law_one) (es := [.lst [.c (.int 0), .c (.int 3), .c .non, .c (.bl true)]]) (env := [some (.io (src a1 b1)), some (.dat d), none]) rfl rfl rfl rfl rfl rfl h2
  have e0 : b__law_meeting_refuses = ST.asg (.name 1) (.call 0 [.v 0, .lst [.neg (.c (.int 1)), .c (.bl true), .c (.str "0"), .tup [.c (.int 1)]]]) :: ST.asg (.name 2) (.call 0 [.v 0, .lst [.c (.int 0), .c (.int 3), .c .non, .c (.bl true)]]) :: b__law_meeting_refuses.drop 2 := rfl
  generalize b__law_meeting_refuses.drop 2 = rest at R e0
  have T1 : evS g__law_meeting_refuses (ST.asg (.name 1) (.call 0 [.v 0, .lst [.neg (.c (.int 1)), .c (.bl true), .c (.str "0"), .tup [.c (.int 1)]]])) [some (.io (src a b)), none, none] = .nx [some (.io (src a1 b1)), some (.dat d), none] := by
    generalize src a b = s at C1 ⊢
    generalize src a1 b1 = s1 at C1 ⊢
    rw [evS, C1]
    rfl
  have T2 : evS g__law_meeting_refuses (ST.asg (.name 2) (.call 0 [.v 0, .lst [.c (.int 0), .c (.int 3), .c .non, .c (.bl true)]])) [some (.io (src a1 b1)), some (.dat d), none] = .nx [some (.io (src a2 b2)), some (.dat d), some (.dat e)] := by
    generalize src a1 b1 = s at C2 ⊢
    generalize src a2 b2 = s1 at C2 ⊢
    rw [evS, C2]
    rfl
  have st : startE (some 0) 3 [D.lst (src a b)] = [some (.io (src a b)), none, none] := rfl
  show semB g__law_meeting_refuses 3 (some 0) b__law_meeting_refuses [.lst (src a b)] = _
  unfold semB
  rw [e0, st, evSs, T1, seq_nx, evSs, T2, seq_nx, R]
  rfl
end Mp
set_option maxHeartbeats 4000000
namespace Mp
open PySem L2
variable [TabsW] [GdW]
theorem rr_if {d : D} (ds : List D) (hd : d ∈ [D.int (-1), .bl true, .str "0", .tup [.int 1]]) : ∀ i, i ∈ [1, 2, 3, 4, 5, 6] → evS g__law_room_refuses (b__law_room_refuses.getD i .pass) [some (.io ds), some (.dat d), none] = .nx [some (.io ds), some (.dat d), none] := by
  intro i hi
  simp only [List.mem_cons, List.not_mem_nil, or_false] at hd hi
  rcases hd with rfl | rfl | rfl | rfl <;> rcases hi with rfl | rfl | rfl | rfl | rfl | rfl <;> kernel_rfl
theorem rr_rest {d e : D} (ds : List D) (hd : d ∈ [D.int (-1), .bl true, .str "0", .tup [.int 1]]) (he : e ∈ [D.non, .lst [], .lst [.int 1], .lst [.non, d], .lst [.int 0, .int 0, .int 0]]) :
    evSs g__law_room_refuses (b__law_room_refuses.drop 8) [some (.io ds), some (.dat d), some (.dat e)] = .rt (.bl true) [some (.io ds), some (.dat d), some (.dat e)] := by
  simp only [List.mem_cons, List.not_mem_nil, or_false] at hd he
  rcases he with rfl | rfl | rfl | rfl | rfl <;> rcases hd with rfl | rfl | rfl | rfl <;> kernel_rfl
theorem s_room_refuses (a b : Int) : ∃ a' b', f__law_room_refuses.sem [.lst (src a b)] = .ok (.bl true) (src a' b') := by
  obtain ⟨d, a1, b1, hd, h1⟩ := s_one a b [.int (-1), .bl true, .str "0", .tup [.int 1]] (by decide) (by decide)
  obtain ⟨e, a2, b2, he, h2⟩ := s_one a1 b1 [.non, .lst [], .lst [.int 1], .lst [.non, d], .lst [.int 0, .int 0, .int 0]] (by simp) (by simp)
  refine ⟨a2, b2, ?_⟩
  have R := rr_rest (src a2 b2) hd he
  have I := rr_if (src a1 b1) hd
  clear hd he
  have C1 := io_call (G := g__law_room_refuses) (j := 0) (i := 0) (f := f__law_one) (es := [.lst [.neg (.c (.int 1)), .c (.bl true), .c (.str "0"), .tup [.c (.int 1)]]]) (env := [some (.io (src a b)), none, none]) rfl rfl rfl rfl rfl rfl h1
  have C2 := io_call (G := g__law_room_refuses) (j := 0) (i := 0) (f := f__law_one) (es := [.lst [.c .non, .lst [], .lst [.c (.int 1)], .lst [.c .non, .v 1], .lst [.c (.int 0), .c (.int 0), .c (.int 0)]]]) (env := [some (.io (src a1 b1)), some (.dat d), none]) rfl rfl rfl rfl rfl rfl h2
  have I1 := I 1 (by simp)
  have I2 := I 2 (by simp)
  have I3 := I 3 (by simp)
  have I4 := I 4 (by simp)
  have I5 := I 5 (by simp)
  have I6 := I 6 (by simp)
  have e0 : b__law_room_refuses = ST.asg (.name 1) (.call 0 [.v 0, .lst [.neg (.c (.int 1)), .c (.bl true), .c (.str "0"), .tup [.c (.int 1)]]]) :: b__law_room_refuses.getD 1 .pass :: b__law_room_refuses.getD 2 .pass :: b__law_room_refuses.getD 3 .pass :: b__law_room_refuses.getD 4 .pass :: b__law_room_refuses.getD 5 .pass :: b__law_room_refuses.getD 6 .pass :: ST.asg (.name 2) (.call 0 [.v 0, .lst [.c .non, .lst [], .lst [.c (.int 1)], .lst [.c .non, .v 1], .lst [.c (.int 0), .c (.int 0), .c (.int 0)]]]) :: b__law_room_refuses.drop 8 := rfl
  generalize b__law_room_refuses.getD 1 .pass = i1 at I1 e0
  generalize b__law_room_refuses.getD 2 .pass = i2 at I2 e0
  generalize b__law_room_refuses.getD 3 .pass = i3 at I3 e0
  generalize b__law_room_refuses.getD 4 .pass = i4 at I4 e0
  generalize b__law_room_refuses.getD 5 .pass = i5 at I5 e0
  generalize b__law_room_refuses.getD 6 .pass = i6 at I6 e0
  generalize b__law_room_refuses.drop 8 = rest at R e0
  have T1 : evS g__law_room_refuses (ST.asg (.name 1) (.call 0 [.v 0, .lst [.neg (.c (.int 1)), .c (.bl true), .c (.str "0"), .tup [.c (.int 1)]]])) [some (.io (src a b)), none, none] = .nx [some (.io (src a1 b1)), some (.dat d), none] := by
    generalize src a b = s at C1 ⊢
    generalize src a1 b1 = s1 at C1 ⊢
    rw [evS, C1]
    rfl
  have T2 : evS g__law_room_refuses (ST.asg (.name 2) (.call 0 [.v 0, .lst [.c .non, .lst [], .lst [.c (.int 1)], .lst [.c .non, .v 1], .lst [.c (.int 0), .c (.int 0), .c (.int 0)]]])) [some (.io (src a1 b1)), some (.dat d), none] = .nx [some (.io (src a2 b2)), some (.dat d), some (.dat e)] := by
    generalize src a1 b1 = s at C2 ⊢
    generalize src a2 b2 = s1 at C2 ⊢
    rw [evS, C2]
    rfl
  have st : startE (some 0) 3 [D.lst (src a b)] = [some (.io (src a b)), none, none] := rfl
  show semB g__law_room_refuses 3 (some 0) b__law_room_refuses [.lst (src a b)] = _
  unfold semB
  rw [e0, st, evSs, T1, seq_nx, evSs, I1, seq_nx, evSs, I2, seq_nx, evSs, I3, seq_nx, evSs, I4, seq_nx, evSs, I5, seq_nx, evSs, I6, seq_nx, evSs, T2, seq_nx, R]
  rfl
end Mp
set_option maxHeartbeats 4000000
namespace Mp
open PySem L2
variable [TabsW] [GdW]
/-- a moment's rank: never is behind all -/
def rkM : Option Nat → Int
  | none => 1000000000
  | some n => n
theorem s_rank (m : Option Nat) : f__law_rank.sem [dM m] = .ok (.int (rkM m)) [] := by
  cases m with
  | none => kernel_rfl
  | some n =>
    show semB g__law_rank 1 none b__law_rank [.int n] = _
    have hc : cmpD .is_ (.int (n : Int)) .non = some false := rfl
    have hb : bltD .int [.int (n : Int)] = some (.int n) := rfl
    unfold semB b__law_rank
    simp [evSs, evS, evs, evr, truR, startE, cellsF, cellF, evq_c, evq_v, evq_bin, evq_cmp, evq_chn, evq_and_, evq_or_, evq_not_, evq_neg, evq_ite, evq_tup, evq_lst, evq_ix, evq_blt, evq_isin, R.bind, R.take, R.toS, SR.seq, takeO, rdO, cellAt, content, truD, runF, outE, lift, hc, hb, rkM]
theorem s_lmore (m : Option Nat) (k : Nat) : f__law_more.sem [dM m, .int k] = .ok (dM (m.map (· + k))) [] := by
  cases m with
  | none =>
    show semB g__law_more 2 none b__law_more [.non, .int k] = _
    have hc : cmpD .is_ .non .non = some true := rfl
    unfold semB b__law_more
    simp [evSs, evS, evs, evr, truR, startE, cellsF, cellF, evq_c, evq_v, evq_bin, evq_cmp, evq_chn, evq_and_, evq_or_, evq_not_, evq_neg, evq_ite, evq_tup, evq_lst, evq_ix, evq_blt, evq_isin, R.bind, R.take, R.toS, SR.seq, takeO, rdO, cellAt, content, truD, runF, outE, lift, hc, dM]
  | some n =>
    show semB g__law_more 2 none b__law_more [.int n, .int k] = _
    have hc : cmpD .is_ (.int (n : Int)) .non = some false := rfl
    have ha : addD (.int (n : Int)) (.int (k : Int)) = some (.int ((n + k : Nat) : Int)) := by show some (D.int _) = _; simp
    unfold semB b__law_more
    simp [evSs, evS, evs, evr, truR, startE, cellsF, cellF, evq_c, evq_v, evq_bin, evq_cmp, evq_chn, evq_and_, evq_or_, evq_not_, evq_neg, evq_ite, evq_tup, evq_lst, evq_ix, evq_blt, evq_isin, R.bind, R.take, R.toS, SR.seq, takeO, rdO, cellAt, content, truD, runF, outE, lift, hc, ha, dM, binD]
end Mp
set_option maxHeartbeats 4000000
namespace Mp
open PySem L2
variable [TabsW] [GdW]
def srtM (ms : List (Option Nat)) : List (Option Nat) := (sortI (ms.map rkM)).map fun i => if i = 1000000000 then none else some i.toNat
theorem rkM_nonneg (m : Option Nat) : 0 ≤ rkM m := by cases m with
  | none => decide
  | some n => show (0 : Int) ≤ n; omega
theorem intsD_mapI : ∀ ns : List Int, intsD (ns.map D.int) = some ns
  | [] => rfl
  | n :: ns => by
    show (intsD (ns.map D.int)).map (n :: ·) = _
    rw [intsD_mapI ns]; rfl
def rkD : D → D
  | .int i => .int i
  | _ => .int 1000000000
def unD : D → D
  | .int i => if i = 1000000000 then .non else .int i
  | _ => .non
theorem pow9 : powD (.int 10) (.int 9) = some (.int 1000000000) := by kernel_rfl
theorem s_sorted_ (ms : List (Option Nat)) (hl : ms.length ≤ BIG) : f__law_sorted.sem [.lst (ms.map dM)] = .ok (.lst ((srtM ms).map dM)) [] := by
  have L1 : ev g__law_sorted (.lc (.name 2) (.seq (.v 0)) none (.blt .int [.call 0 [.v 2]]) [2]) [some (.dat (.lst (ms.map dM))), none, none] = .ok (.val (.lst ((ms.map rkM).map D.int))) [some (.dat (.lst (ms.map dM))), none, none] := by
    have := ev_lc_run (G := g__law_sorted) (i := 2) (it := .seq (.v 0)) (t := none) (e := .blt .int [.call 0 [.v 2]]) (env := [some (.dat (.lst (ms.map dM))), none, none]) (env0 := [some (.dat (.lst (ms.map dM))), none, none]) (ds := ms.map dM) (fun _ => true) rkD rfl (by simpa using hl) rfl (by simp) (fun d hd => rfl) (fun d hd _ => by
      obtain ⟨m, _, rfl⟩ := List.mem_map.mp hd
      have q := s_rank m
      have b : bltD .int [.int (rkM m)] = some (.int (rkM m)) := rfl
      have e : rkD (dM m) = .int (rkM m) := by cases m <;> rfl
      rw [e]
      simp [evSs, evS, evs, evr, truR, startE, cellsF, cellF, evq_c, evq_v, evq_bin, evq_cmp, evq_chn, evq_and_, evq_or_, evq_not_, evq_neg, evq_ite, evq_tup, evq_lst, evq_ix, evq_blt, evq_isin, R.bind, R.take, R.toS, SR.seq, takeO, rdO, cellAt, content, truD, runF, outE, lift, cl__law_sorted_0, q, b])
    rw [this]
    congr 3
    rw [List.filter_eq_self.mpr (fun _ _ => rfl), List.map_map, List.map_map]
    refine List.map_congr_left fun m _ => ?_
    cases m <;> rfl
  have L2 : ev g__law_sorted (.lc (.name 2) (.seq (.v 1)) none (.ite (.cmp .eq (.v 2) (.bin .pow (.c (.int 10)) (.c (.int 9)))) (.c .non) (.v 2)) [2]) [some (.dat (.lst (ms.map dM))), some (.dat (.lst ((sortI (ms.map rkM)).map D.int))), none] = .ok (.val (.lst ((srtM ms).map dM))) [some (.dat (.lst (ms.map dM))), some (.dat (.lst ((sortI (ms.map rkM)).map D.int))), none] := by
    have hs : (sortI (ms.map rkM)).length = ms.length := by unfold sortI; rw [List.length_mergeSort, List.length_map]
    have := ev_lc_run (G := g__law_sorted) (i := 2) (it := .seq (.v 1)) (t := none) (e := .ite (.cmp .eq (.v 2) (.bin .pow (.c (.int 10)) (.c (.int 9)))) (.c .non) (.v 2)) (env := [some (.dat (.lst (ms.map dM))), some (.dat (.lst ((sortI (ms.map rkM)).map D.int))), none]) (env0 := [some (.dat (.lst (ms.map dM))), some (.dat (.lst ((sortI (ms.map rkM)).map D.int))), none]) (ds := (sortI (ms.map rkM)).map D.int) (fun _ => true) unD rfl (by rw [List.length_map, hs]; exact hl) rfl (by simp) (fun d hd => rfl) (fun d hd _ => by
      obtain ⟨i, _, rfl⟩ := List.mem_map.mp hd
      have hp := pow9
      have hc : cmpD .eq (.int i) (.int 1000000000) = some (decide (i = 1000000000)) := by simp [cmpD, dataD, eqD]; rfl
      have eT : i = 1000000000 → unD (.int i) = .non := fun z => by unfold unD; exact if_pos z
      have eF : ¬ i = 1000000000 → unD (.int i) = .int i := fun z => by unfold unD; exact if_neg z
      generalize (1000000000 : Int) = T at hp hc eT eF
      generalize unD (.int i) = u at eT eF
      generalize ms.map dM = A
      generalize (sortI (ms.map rkM)).map D.int = B
      by_cases z : i = T
      · rw [eT z]
        rw [decide_eq_true z] at hc
        simp [evSs, evS, evs, evr, truR, startE, cellsF, cellF, evq_c, evq_v, evq_bin, evq_cmp, evq_chn, evq_and_, evq_or_, evq_not_, evq_neg, evq_ite, evq_tup, evq_lst, evq_ix, evq_blt, evq_isin, R.bind, R.take, R.toS, SR.seq, takeO, rdO, cellAt, content, truD, runF, outE, lift, hp, hc, binD]
      · rw [eF z]
        rw [decide_eq_false z] at hc
        simp [evSs, evS, evs, evr, truR, startE, cellsF, cellF, evq_c, evq_v, evq_bin, evq_cmp, evq_chn, evq_and_, evq_or_, evq_not_, evq_neg, evq_ite, evq_tup, evq_lst, evq_ix, evq_blt, evq_isin, R.bind, R.take, R.toS, SR.seq, takeO, rdO, cellAt, content, truD, runF, outE, lift, hp, hc, binD])
    rw [this]
    congr 3
    rw [List.filter_eq_self.mpr (fun _ _ => rfl)]
    unfold srtM
    rw [List.map_map, List.map_map]
    refine List.map_congr_left fun i hi => ?_
    have h0 : 0 ≤ i := by
      have := (List.mem_mergeSort).mp hi
      obtain ⟨m, _, rfl⟩ := List.mem_map.mp this
      exact rkM_nonneg m
    show unD (.int i) = dM (if i = 1000000000 then none else some i.toNat)
    unfold unD
    dsimp only
    split
    · rfl
    · show D.int i = D.int (i.toNat : Int)
      rw [Int.toNat_of_nonneg h0]
  have hb : bltD .sorted [.lst ((ms.map rkM).map D.int)] = some (.lst ((sortI (ms.map rkM)).map D.int)) := by
    show (intsD ((ms.map rkM).map D.int)).map _ = _
    rw [intsD_mapI]; rfl
  show semB g__law_sorted 3 none b__law_sorted [.lst (ms.map dM)] = _
  unfold semB b__law_sorted
  generalize (ms.map rkM).map D.int = P1 at L1 hb
  generalize (sortI (ms.map rkM)).map D.int = P2 at L2 hb
  generalize (srtM ms).map dM = P3 at L2 ⊢
  generalize ms.map dM = A at L1 L2 ⊢
  simp [evSs, evS, evs, evr, truR, startE, cellsF, cellF, evq_c, evq_v, evq_bin, evq_cmp, evq_chn, evq_and_, evq_or_, evq_not_, evq_neg, evq_ite, evq_tup, evq_lst, evq_ix, evq_blt, evq_isin, R.bind, R.take, R.toS, SR.seq, takeO, rdO, cellAt, content, truD, runF, outE, lift, L1, hb, L2, bindT, freeB_eq]
end Mp
set_option maxHeartbeats 4000000
namespace Mp
open PySem L2
variable [TabsW] [GdW]
theorem srtM_len (ms : List (Option Nat)) : (srtM ms).length = ms.length := by unfold srtM sortI; rw [List.length_map, List.length_mergeSort, List.length_map]
theorem ix_first {x : Option Nat} {l : List (Option Nat)} (hl : l.length < 1000000) : ixD (.lst ((x :: l).map dM)) (.int 0) = some (dM x) := by
  show atI _ _ = _
  unfold atI
  rw [show (0 : Int) = ((0 : Nat) : Int) from rfl, ix_in' (by simp) (by simp only [List.length_map, List.length_cons]; omega)]
  rfl
theorem s_lmin (ms : List (Option Nat)) (hl : ms.length + 1 ≤ BIG) : f__law_min.sem [.lst (ms.map dM)] = .ok (dM (((srtM (ms ++ [none])).head?).join)) [] := by
  have q := s_sorted_ (ms ++ [none]) (by simpa using hl)
  have ha : addD (.lst (ms.map dM)) (.lst [.non]) = some (.lst ((ms ++ [none]).map dM)) := by
    rw [List.map_append]
    exact if_pos (by simpa using hl)
  have hb : bltD .list [.lst (ms.map dM)] = some (.lst (ms.map dM)) := rfl
  have hn := srtM_len (ms ++ [none])
  have hB : BIG = 100000 := rfl
  cases hs : srtM (ms ++ [none]) with
  | nil => rw [hs] at hn; simp at hn
  | cons x l =>
    rw [hs] at q hn
    have hx := ix_first (x := x) (l := l) (by simp at hn; omega)
    generalize (x :: l).map dM = L at q hx
    show semB g__law_min 1 none b__law_min [.lst (ms.map dM)] = _
    unfold semB b__law_min
    generalize (ms ++ [none]).map dM = A at ha q
    generalize ms.map dM = B at ha hb ⊢
    have h1 : (1 : Nat) ≤ BIG := by decide
    simp [evSs, evS, evs, evr, truR, startE, cellsF, cellF, evq_c, evq_v, evq_bin, evq_cmp, evq_chn, evq_and_, evq_or_, evq_not_, evq_neg, evq_ite, evq_tup, evq_lst, evq_ix, evq_blt, evq_isin, R.bind, R.take, R.toS, SR.seq, takeO, rdO, cellAt, content, truD, runF, outE, lift, cl__law_min_0, hb, ha, q, hx, binD, h1]
theorem s_lmax (ms : List (Option Nat)) (hl : ms.length + 1 ≤ BIG) : f__law_max.sem [.lst (ms.map dM)] = .ok (dM (((srtM (some 0 :: ms)).getLast?).join)) [] := by
  have q := s_sorted_ (some 0 :: ms) (by simpa using hl)
  have ha : addD (.lst [.int 0]) (.lst (ms.map dM)) = some (.lst ((some 0 :: ms).map dM)) := if_pos (by simp; omega)
  have hb : bltD .list [.lst (ms.map dM)] = some (.lst (ms.map dM)) := rfl
  have hn := srtM_len (some 0 :: ms)
  obtain ⟨x, h1⟩ : ∃ x, (srtM (some 0 :: ms)).getLast? = some x := by
    cases hh : (srtM (some 0 :: ms)).getLast? with
    | none => rw [List.getLast?_eq_none_iff.mp hh] at hn; simp at hn
    | some p => exact ⟨p, rfl⟩
  have hx : ixD (.lst ((srtM (some 0 :: ms)).map dM)) (.int (-1)) = some (dM x) := by
    show atI _ _ = _
    rw [last_at _ (by intro z; rw [List.map_eq_nil_iff] at z; rw [z] at hn; simp at hn), List.getLast?_map, h1]
    rfl
  rw [h1]
  generalize (srtM (some 0 :: ms)).map dM = L at q hx
  show semB g__law_max 1 none b__law_max [.lst (ms.map dM)] = _
  unfold semB b__law_max
  generalize (some 0 :: ms).map dM = A at ha q
  generalize ms.map dM = B at ha hb ⊢
  have h2 : (1 : Nat) ≤ BIG := by decide
  simp [evSs, evS, evs, evr, truR, startE, cellsF, cellF, evq_c, evq_v, evq_bin, evq_cmp, evq_chn, evq_and_, evq_or_, evq_not_, evq_neg, evq_ite, evq_tup, evq_lst, evq_ix, evq_blt, evq_isin, R.bind, R.take, R.toS, SR.seq, takeO, rdO, cellAt, content, truD, runF, outE, lift, cl__law_max_0, hb, ha, q, hx, binD, h2]
end Mp
set_option maxHeartbeats 4000000
namespace Mp
open PySem L2
variable [TabsW] [GdW]
theorem s_lnth (ms : List (Option Nat)) (n : Nat) (hn : 1 ≤ n) (hl : ms.length ≤ BIG) : f__law_so_many_th.sem [.lst (ms.map dM), .int n] = .ok (dM (if n ≤ ms.length then ((srtM ms)[n - 1]?).join else none)) [] := by
  have hB : BIG = 100000 := rfl
  have q := s_sorted_ ms hl
  have hlen : (ms.map dM).length = ms.length := by simp
  have hlen2 := srtM_len ms
  have hc : cmpD .le (.int (n : Int)) (.int (ms.length : Int)) = some (decide (n ≤ ms.length)) := by
    show some (decide _) = _
    congr 1
    simp
  have hs : subD (.int (n : Int)) (.int 1) = some (.int ((n - 1 : Nat) : Int)) := by
    show some (D.int _) = _
    congr 2
    omega
  by_cases h : n ≤ ms.length
  · rw [if_pos h]
    rw [decide_eq_true h] at hc
    obtain ⟨x, h1⟩ : ∃ x, (srtM ms)[n - 1]? = some x := ⟨_, List.getElem?_eq_getElem (by omega)⟩
    have hx : ixD (.lst ((srtM ms).map dM)) (.int ((n - 1 : Nat) : Int)) = some (dM x) := by
      show atI _ _ = _
      unfold atI
      rw [ix_in' (by omega) (by rw [List.length_map]; omega)]
      show ((srtM ms).map dM)[((n - 1 : Nat) : Int).toNat]? = _
      rw [Int.toNat_natCast, List.getElem?_map, h1]
      rfl
    rw [h1]
    generalize (srtM ms).map dM = L at q hx
    show semB g__law_so_many_th 2 none b__law_so_many_th [.lst (ms.map dM), .int n] = _
    unfold semB b__law_so_many_th
    have hk := len_lst (ms.map dM)
    rw [hlen] at hk
    generalize ((n - 1 : Nat) : Int) = z at hs hx
    generalize (ms.length : Int) = u at hc hk
    generalize ms.map dM = A at q hk ⊢
    simp [evSs, evS, evs, evr, truR, startE, cellsF, cellF, evq_c, evq_v, evq_bin, evq_cmp, evq_chn, evq_and_, evq_or_, evq_not_, evq_neg, evq_ite, evq_tup, evq_lst, evq_ix, evq_blt, evq_isin, R.bind, R.take, R.toS, SR.seq, takeO, rdO, cellAt, content, truD, runF, outE, lift, cl__law_so_many_th_0, hk, hc, q, hx, binD, hs]
  · rw [if_neg h]
    rw [decide_eq_false h] at hc
    show semB g__law_so_many_th 2 none b__law_so_many_th [.lst (ms.map dM), .int n] = _
    unfold semB b__law_so_many_th
    have hk := len_lst (ms.map dM)
    rw [hlen] at hk
    generalize (ms.length : Int) = u at hc hk
    generalize ms.map dM = A at q hk ⊢
    simp [evSs, evS, evs, evr, truR, startE, cellsF, cellF, evq_c, evq_v, evq_bin, evq_cmp, evq_chn, evq_and_, evq_or_, evq_not_, evq_neg, evq_ite, evq_tup, evq_lst, evq_ix, evq_blt, evq_isin, R.bind, R.take, R.toS, SR.seq, takeO, rdO, cellAt, content, truD, runF, outE, lift, hk, hc, dM]
end Mp
set_option maxHeartbeats 4000000
namespace Mp
/-- all told ones are below the rank of never -/
def Sm (B : Nat) (ms : List (Option Nat)) : Prop := ∀ m, m ∈ ms → ∀ a, m = some a → a ≤ B
theorem rk_perm : ∀ ms : List (Option Nat), (ms.map rkM).Perm (((ms.filterMap id).map fun n : Nat => (n : Int)) ++ List.replicate (ms.length - (ms.filterMap id).length) 1000000000)
  | [] => .nil
  | none :: ms => by
    have e : (none :: ms).filterMap id = ms.filterMap id := rfl
    have hl := List.length_filterMap_le id ms
    rw [e, List.map_cons, List.length_cons, Nat.succ_sub hl, List.replicate_succ']
    refine ((rk_perm ms).cons _).trans ?_
    rw [← List.append_assoc]
    exact (List.perm_append_singleton _ _).symm
  | some a :: ms => by
    have e : (some a :: ms).filterMap id = a :: ms.filterMap id := rfl
    rw [e, List.map_cons, List.length_cons, List.length_cons, Nat.add_sub_add_right]
    exact (rk_perm ms).cons _
theorem srtM_eq (ms : List (Option Nat)) (hs : Sm 999999999 ms) : srtM ms = (srt ms).map some ++ List.replicate (ms.length - (srt ms).length) none := by
  have hS : sortI (ms.map rkM) = ((srt ms).map fun n : Nat => (n : Int)) ++ List.replicate (ms.length - (srt ms).length) 1000000000 := by
    have sb : ∀ x, x ∈ srt ms → x ≤ 999999999 := fun x hx => by
      obtain ⟨m, hm, e⟩ := List.mem_filterMap.mp (List.mem_mergeSort.mp hx)
      exact hs m hm x e
    have sl : (srt ms).length = (ms.filterMap id).length := List.length_mergeSort _
    refine List.Perm.eq_of_pairwise (le := (· ≤ ·)) (fun a b _ _ h1 h2 => Int.le_antisymm h1 h2) ?_ ?_ ?_
    · have := List.pairwise_mergeSort (le := fun a b : Int => decide (a ≤ b)) (by intro a b c; simp; omega) (by intro a b; simp; omega) (ms.map rkM)
      exact this.imp fun h => by simpa using h
    · rw [List.pairwise_append]
      refine ⟨?_, ?_, ?_⟩
      · rw [List.pairwise_map]
        exact (srt_sorted ms).imp fun h => by omega
      · rw [List.pairwise_replicate]; exact .inr (by omega)
      · intro x hx y hy
        obtain ⟨n, hn, rfl⟩ := List.mem_map.mp hx
        have := sb n hn
        have := (List.mem_replicate.mp hy).2
        omega
    · refine (List.mergeSort_perm _ _).trans ((rk_perm ms).trans ?_)
      rw [sl]
      exact (((List.mergeSort_perm _ _).symm).map _).append_right _
  have sb : ∀ x, x ∈ srt ms → x ≤ 999999999 := fun x hx => by
    obtain ⟨m, hm, e⟩ := List.mem_filterMap.mp (List.mem_mergeSort.mp hx)
    exact hs m hm x e
  unfold srtM
  rw [hS, List.map_append, List.map_map, List.map_replicate]
  congr 1
  refine List.map_congr_left fun n hn => ?_
  have := sb n hn
  show (if (n : Int) = 1000000000 then none else some (n : Int).toNat) = some n
  rw [if_neg (by omega), Int.toNat_natCast]
theorem srtM_nth (ms : List (Option Nat)) (hs : Sm 999999999 ms) (k : Nat) : ((srtM ms)[k]?).join = (srt ms)[k]? := by
  rw [srtM_eq ms hs]
  by_cases h : k < (srt ms).length
  · rw [List.getElem?_append_left (by rw [List.length_map]; exact h), List.getElem?_map, List.getElem?_eq_getElem h]; rfl
  · rw [List.getElem?_append_right (by rw [List.length_map]; omega), List.getElem?_eq_none (by omega : (srt ms).length ≤ k), List.getElem?_replicate]
    split <;> rfl
theorem eq_at {a b : Option Nat} (h : ∀ y, atM a y ↔ atM b y) : a = b := by
  cases a with
  | none => cases b with
    | none => rfl
    | some b => obtain ⟨c, e, _⟩ := (h b).mpr ⟨b, rfl, Nat.le_refl _⟩; cases e
  | some a => cases b with
    | none => obtain ⟨c, e, _⟩ := (h a).mp ⟨a, rfl, Nat.le_refl _⟩; cases e
    | some b =>
      obtain ⟨c, e, k⟩ := (h a).mp ⟨a, rfl, Nat.le_refl _⟩; cases e
      obtain ⟨c, e, k2⟩ := (h b).mpr ⟨b, rfl, Nat.le_refl _⟩; cases e
      congr 1; omega
theorem cnt_cons (m : Option Nat) (ms : List (Option Nat)) (y : Nat) : cnt (m :: ms) y = cnt ms y + (if atM m y then 1 else 0) := by
  unfold cnt
  rw [List.countP_cons]
  by_cases h : atM m y
  · rw [if_pos (decide_eq_true h), if_pos h]
  · rw [if_neg (by simpa using h), if_neg h]
theorem lmax_eq (ms : List (Option Nat)) (hs : Sm 999999999 ms) : ((srtM (some 0 :: ms)).getLast?).join = greM ms := by
  have h0 : Sm 999999999 (some 0 :: ms) := fun m hm a e => by
    rcases List.mem_cons.mp hm with rfl | hm
    · cases e; omega
    · exact hs m hm a e
  have hl : (srtM (some 0 :: ms)).length = ms.length + 1 := by unfold srtM sortI; rw [List.length_map, List.length_mergeSort, List.length_map]; rfl
  rw [List.getLast?_eq_getElem?, hl, Nat.add_sub_cancel, srtM_nth _ h0]
  have e : (srt (some 0 :: ms))[ms.length]? = nthM (some 0 :: ms) (ms.length + 1) := rfl
  rw [e]
  refine eq_at fun y => ?_
  have h00 : atM (some 0) y := ⟨0, rfl, Nat.zero_le _⟩
  rw [nth_at _ _ _ (by omega), cnt_cons, if_pos h00]
  unfold greM
  cases ms with
  | nil => rw [if_pos rfl]; exact ⟨fun _ => h00, fun _ => by simp⟩
  | cons m ms => rw [if_neg (by simp), nth_at _ _ _ (by simp)]; omega
theorem lmin_eq (a b : Option Nat) (hs : Sm 999999999 [a, b]) : ((srtM ([a, b] ++ [none])).head?).join = lesM a b := by
  have h0 : Sm 999999999 ([a, b] ++ [none]) := fun m hm c e => by
    rcases List.mem_append.mp hm with hm | hm
    · exact hs m hm c e
    · rw [List.mem_singleton.mp hm] at e; cases e
  rw [List.head?_eq_getElem?, srtM_nth _ h0]
  have e : (srt ([a, b] ++ [none]))[0]? = nthM [a, b, none] 1 := rfl
  rw [e]
  refine eq_at fun y => ?_
  have hn : ¬ atM none y := by rintro ⟨_, h, _⟩; cases h
  rw [nth_at _ _ _ (by omega), les_at, cnt_cons, cnt_cons, cnt_cons, if_neg hn]
  have : cnt [] y = 0 := rfl
  rw [this]
  by_cases ha : atM a y <;> by_cases hb : atM b y <;> simp [ha, hb]
theorem lnth_eq (ms : List (Option Nat)) (hs : Sm 999999999 ms) (n : Nat) : (if n ≤ ms.length then ((srtM ms)[n - 1]?).join else none) = nthM ms n := by
  by_cases h : n ≤ ms.length
  · rw [if_pos h, srtM_nth ms hs]; rfl
  · rw [if_neg h]
    unfold nthM
    have sl : (srt ms).length = (ms.filterMap id).length := List.length_mergeSort _
    have := List.length_filterMap_le id ms
    exact (List.getElem?_eq_none (by omega)).symm
theorem nth_mem {ms : List (Option Nat)} {n a : Nat} (h : nthM ms n = some a) : some a ∈ ms := by
  unfold nthM at h
  have := List.mem_of_getElem? h
  obtain ⟨m, hm, e⟩ := List.mem_filterMap.mp (List.mem_mergeSort.mp this)
  have e' : m = some a := e
  rw [← e']; exact hm
theorem gre_le {ms : List (Option Nat)} {B a : Nat} (hs : Sm B ms) (h : greM ms = some a) : a ≤ B := by
  unfold greM at h
  split at h
  · cases h; omega
  · exact hs _ (nth_mem h) a rfl
theorem les_le {a b : Option Nat} {B c : Nat} (ha : ∀ x, a = some x → x ≤ B) (hb : ∀ x, b = some x → x ≤ B) (h : lesM a b = some c) : c ≤ B := by
  unfold lesM at h
  split at h
  · exact hb c h
  · exact ha c h
theorem Sm.two {a b : Option Nat} {B : Nat} (ha : ∀ x, a = some x → x ≤ B) (hb : ∀ x, b = some x → x ≤ B) : Sm B [a, b] := fun m hm x e => by
  simp only [List.mem_cons, List.not_mem_nil, or_false] at hm
  rcases hm with rfl | rfl
  · exact ha x e
  · exact hb x e
theorem add_le {a : Option Nat} {B n x : Nat} (ha : ∀ x, a = some x → x ≤ B) (h : a.map (· + n) = some x) : x ≤ B + n := by
  cases a with
  | none => cases h
  | some a => cases h; have := ha a rfl; show a + n ≤ _; omega
/-- a row's moments are small -/
def RowS (B : Nat) (r : Row) : Prop := ∀ p, p ∈ r → (∀ x, p.1 = some x → x ≤ B) ∧ ∀ x, p.2 = some x → x ≤ B
theorem get_le {as : List (Option Nat)} {A : Nat} (ha : Sm A as) (p x : Nat) (h : (as[p]?).getD none = some x) : x ≤ A := by
  cases e : as[p]? with
  | none => rw [e] at h; cases h
  | some m => rw [e] at h; exact ha m (List.mem_of_getElem? e) x h
theorem rpair_le {as : List (Option Nat)} {ns : List Nat} {cs : List (Option Nat)} {turn A : Nat} (ha : Sm A as) (hn : ∀ n, n ∈ ns → n ≤ A) (hc : Sm A cs) (ht : turn ≤ A) {row : Row} {B : Nat} (hr : RowS B row) (hA : A ≤ B) (p : Nat) :
    (∀ x, (rpair as ns cs turn row p).1 = some x → x ≤ B + A) ∧ ∀ x, (rpair as ns cs turn row p).2 = some x → x ≤ B + 2 * A := by
  have h1 : ∀ x, (rpair as ns cs turn row p).1 = some x → x ≤ B + A := fun x h => by
    unfold rpair at h
    dsimp only at h
    cases e : row.getLast? with
    | none => rw [e] at h; have := get_le ha p x h; omega
    | some q =>
      rw [e] at h
      dsimp only at h
      refine gre_le (Sm.two (fun x h => ?_) (fun x h => ?_)) h
      · have := get_le ha p x h; omega
      · have := add_le (hr q (List.mem_of_getLast? e)).2 h; omega
  refine ⟨h1, fun x h => ?_⟩
  have nn : (ns[p]?).getD 0 ≤ A := by
    cases e : ns[p]? with
    | none => simp
    | some n => exact hn n (List.mem_of_getElem? e)
  have hl : ∀ x, (rpair as ns cs turn row p).1.map (· + (ns[p]?).getD 0) = some x → x ≤ B + 2 * A := fun x h => by
    have := add_le h1 h; omega
  have e2 : (rpair as ns cs turn row p).2 = match (cs[p]?).getD none with
    | none => (rpair as ns cs turn row p).1.map (· + (ns[p]?).getD 0)
    | some c => if p + 1 = as.length then (rpair as ns cs turn row p).1.map (· + (ns[p]?).getD 0) else lesM ((rpair as ns cs turn row p).1.map (· + (ns[p]?).getD 0)) ((greM [(rpair as ns cs turn row p).1, (as[p + 1]?).getD none]).map (· + c)) := rfl
  rw [e2] at h
  cases e : (cs[p]?).getD none with
  | none => rw [e] at h; exact hl x h
  | some c =>
    rw [e] at h
    dsimp only at h
    split at h
    · exact hl x h
    · refine les_le hl (fun x h => ?_) h
      have hcA : c ≤ A := get_le hc p c e
      have : x ≤ (B + A) + c := add_le (fun x h => gre_le (Sm.two h1 (fun x h => by have := get_le ha (p + 1) x h; omega)) h) h
      omega
theorem roomI_le {as : List (Option Nat)} {ns : List Nat} {cs : List (Option Nat)} {turn A : Nat} (ha : Sm A as) (hn : ∀ n, n ∈ ns → n ≤ A) (hc : Sm A cs) (ht : turn ≤ A) : ∀ p, RowS ((2 * p + 1) * A) (roomI as ns cs turn p)
  | 0 => fun q hq => nomatch hq
  | p + 1 => fun q hq => by
    have ih := roomI_le ha hn hc ht p
    have hA : A ≤ (2 * p + 1) * A := Nat.le_mul_of_pos_left A (by omega)
    have e : (2 * (p + 1) + 1) * A = (2 * p + 1) * A + 2 * A := by rw [← Nat.add_mul]; congr 1
    rw [e]
    unfold roomI at hq
    rcases List.mem_append.mp hq with hq | hq
    · obtain ⟨g1, g2⟩ := ih q hq
      exact ⟨fun x h => Nat.le_trans (g1 x h) (by omega), fun x h => Nat.le_trans (g2 x h) (by omega)⟩
    · rw [List.mem_singleton.mp hq]
      obtain ⟨g1, g2⟩ := rpair_le ha hn hc ht ih hA p
      exact ⟨fun x h => Nat.le_trans (g1 x h) (by omega), g2⟩
end Mp
set_option maxHeartbeats 4000000
namespace Mp
open PySem L2
variable [TabsW] [GdW]
theorem q_lmax (ms : List (Option Nat)) (hs : Sm 999999999 ms) (hl : ms.length + 1 ≤ BIG) : f__law_max.sem [.lst (ms.map dM)] = .ok (dM (greM ms)) [] := by
  rw [s_lmax ms hl, lmax_eq ms hs]
theorem q_lmin (a b : Option Nat) (hs : Sm 999999999 [a, b]) : f__law_min.sem [.lst [dM a, dM b]] = .ok (dM (lesM a b)) [] := by
  have q := s_lmin [a, b] (by show 3 ≤ BIG; decide)
  rw [lmin_eq a b hs] at q
  exact q
theorem q_lnth (ms : List (Option Nat)) (n : Nat) (hn : 1 ≤ n) (hs : Sm 999999999 ms) (hl : ms.length ≤ BIG) : f__law_so_many_th.sem [.lst (ms.map dM), .int n] = .ok (dM (nthM ms n)) [] := by
  rw [s_lnth ms n hn hl, lnth_eq ms hs]
def bLR : List ST := [.asg (.name 7) (.ite (.cmp .eq (.v 5) (.c (.int 0))) (.v 6) (.call 0 [.lst [.v 6, .call 1 [.ix (.ix (.v 4) (.neg (.c (.int 1)))) (.c (.int 1)), .v 2]]])), .asg (.name 8) (.call 1 [.v 7, .ix (.v 1) (.v 5)]), .if_ (.and_ (.cmp .isnot (.ix (.v 3) (.v 5)) (.c .non)) (.cmp .lt (.bin .add (.v 5) (.c (.int 1))) (.blt .len [.v 0]))) [.asg (.name 9) (.call 1 [.call 0 [.lst [.v 7, .ix (.v 0) (.bin .add (.v 5) (.c (.int 1)))]], .ix (.v 3) (.v 5)]), .asg (.name 8) (.call 2 [.lst [.v 8, .v 9]])] [], .expr (.app 4 (.tup [.v 7, .v 8]))]
section
variable (as : List (Option Nat)) (ns : List Nat) (cs : List (Option Nat)) (turn : Nat)
def envQ (r : Row) (x5 x6 x7 x8 x9 : Option Cell) : Env := [some (.dat (.lst (as.map dM))), some (.dat (.lst (dNs ns))), some (.dat (.int turn)), some (.dat (.lst (cs.map dM))), some (.own (r.map dP)), x5, x6, x7, x8, x9]
theorem lr_begin (r : Row) (p : Nat) (hp : r.length = p) (a : Option Nat) (A B : Nat) (ha : ∀ x, a = some x → x ≤ A) (hr : RowS B r) (hA : A ≤ B) (ht : turn ≤ A) (hB : B + 2 * A ≤ 999999999) (x7 x8 x9 : Option Cell) : ev g__law_room (.ite (.cmp .eq (.v 5) (.c (.int 0))) (.v 6) (.call 0 [.lst [.v 6, .call 1 [.ix (.ix (.v 4) (.neg (.c (.int 1)))) (.c (.int 1)), .v 2]]])) (envQ as ns cs turn r (some (.dat (.int p))) (some (.dat (dM a))) x7 x8 x9) = .ok (.val (dM (rbeg turn r a))) (envQ as ns cs turn r (some (.dat (.int p))) (some (.dat (dM a))) x7 x8 x9) := by
  by_cases h : r = []
  · subst h
    have hp : p = 0 := by simpa using hp.symm
    subst hp
    have hc : cmpD .eq (.int 0) (.int 0) = some true := rfl
    unfold envQ
    simp [evSs, evS, evs, evr, truR, startE, cellsF, cellF, evq_c, evq_v, evq_bin, evq_cmp, evq_chn, evq_and_, evq_or_, evq_not_, evq_neg, evq_ite, evq_tup, evq_lst, evq_ix, evq_blt, evq_isin, R.bind, R.take, R.toS, SR.seq, takeO, rdO, cellAt, content, truD, runF, outE, lift, rbeg, hc]
  · obtain ⟨q, h1, h2⟩ := last_row r h
    have hp0 : p ≠ 0 := fun z => h (List.eq_nil_of_length_eq_zero (by omega))
    have hc : cmpD .eq (.int (p : Int)) (.int 0) = some false := by
      have : ¬ (p : Int) = 0 := by omega
      simp [cmpD, dataD, eqD, hp0]
    have e : rbeg turn r a = greM [a, q.2.map (· + turn)] := by unfold rbeg; rw [h1]
    have h4 : atI [dM q.1, dM q.2] 1 = some (dM q.2) := rfl
    have h5 := s_lmore q.2 turn
    have h6 : f__law_max.sem [.lst [dM a, dM (q.2.map (· + turn))]] = .ok (dM (greM [a, q.2.map (· + turn)])) [] := q_lmax [a, q.2.map (· + turn)] (Sm.two (fun x z => by have := ha x z; omega) fun x z => by
      have := add_le (hr q (List.mem_of_getLast? h1)).2 z; omega) (by show 3 ≤ BIG; decide)
    have hb : 2 ≤ BIG := by decide
    rw [e]
    generalize greM [a, q.2.map (· + turn)] = z at h6 ⊢
    generalize q.2.map (· + turn) = w at h5 h6
    unfold envQ
    simp [evSs, evS, evs, evr, truR, startE, cellsF, cellF, evq_c, evq_v, evq_bin, evq_cmp, evq_chn, evq_and_, evq_or_, evq_not_, evq_neg, evq_ite, evq_tup, evq_lst, evq_ix, evq_blt, evq_isin, R.bind, R.take, R.toS, SR.seq, takeO, rdO, cellAt, content, truD, runF, outE, lift, hc, ixD, h2, dP, h4, cl__law_room_0, cl__law_room_1, h5, h6, hb]
theorem lr_turn (hns : ns.length = as.length) (hcs : cs.length = as.length) (p : Nat) (a : Option Nat) (ha : as[p]? = some a) (r : Row) (hp0 : r.length = p) (hr : r.length < BIG) (A B : Nat) (hA : Sm A as) (hN : ∀ n, n ∈ ns → n ≤ A) (hC : Sm A cs) (ht : turn ≤ A) (hR : RowS B r) (hAB : A ≤ B) (hB : B + 2 * A ≤ 999999999) (x7 x8 x9 : Option Cell) (h7 : frC x7 = true) (h8 : frC x8 = true) (h9 : frC x9 = true) :
    ∃ y7 y8 y9, frC y7 = true ∧ frC y8 = true ∧ frC y9 = true ∧ evSs g__law_room bLR (envQ as ns cs turn r (some (.dat (.int p))) (some (.dat (dM a))) x7 x8 x9) = .nx (envQ as ns cs turn (r ++ [rpair as ns cs turn r p]) (some (.dat (.int p))) (some (.dat (dM a))) y7 y8 y9) := by
  have hp : p < as.length := (List.getElem?_eq_some_iff.mp ha).1
  obtain ⟨n, hn⟩ : ∃ n, ns[p]? = some n := ⟨_, List.getElem?_eq_getElem (by omega)⟩
  obtain ⟨c, hc⟩ : ∃ c, cs[p]? = some c := ⟨_, List.getElem?_eq_getElem (by omega)⟩
  have haA : ∀ x, a = some x → x ≤ A := fun x z => hA a (List.mem_of_getElem? ha) x z
  have q1 := lr_begin as ns cs turn r p hp0 a A B haA hR hAB ht hB x7 x8 x9
  obtain ⟨g1, g2⟩ := rpair_le hA hN hC ht hR hAB p
  have a1 : atI (dNs ns) (p : Int) = some (.int n) := at_map _ ns p n hn
  have a2 : atI (cs.map dM) (p : Int) = some (dM c) := at_map _ cs p c hc
  have hb : 2 ≤ BIG := by decide
  have hlen : (as.map dM).length = as.length := by simp
  have eb : (rpair as ns cs turn r p).1 = rbeg turn r a := by
    unfold rpair rbeg
    rw [ha]; rfl
  rw [eb] at g1
  generalize hB' : rbeg turn r a = b at q1 eb g1
  have q2 := s_lmore b n
  have hnA := hN n (List.mem_of_getElem? hn)
  have l1 : ∀ x, b.map (· + n) = some x → x ≤ 999999999 := fun x z => by have := add_le g1 z; omega
  cases c with
  | none =>
    have ee : (rpair as ns cs turn r p).2 = b.map (· + n) := by
      have : (rpair as ns cs turn r p).2 = (rpair as ns cs turn r p).1.map (· + n) := by
        unfold rpair; dsimp only; rw [hc, hn]; rfl
      rw [this, eb]
    have e : rpair as ns cs turn r p = (b, b.map (· + n)) := Prod.ext eb ee
    rw [e]
    refine ⟨some (.dat (dM b)), some (.dat (dM (b.map (· + n)))), x9, rfl, rfl, h9, ?_⟩
    clear l1
    generalize b.map (· + n) = z at q2 ⊢
    have a2 : atI (cs.map dM) (p : Int) = some .non := a2
    have hi : cmpD .isnot .non .non = some false := rfl
    unfold bLR
    unfold envQ at q1 ⊢
    simp [evSs, evS, evs, evr, truR, startE, cellsF, cellF, evq_c, evq_v, evq_bin, evq_cmp, evq_chn, evq_and_, evq_or_, evq_not_, evq_neg, evq_ite, evq_tup, evq_lst, evq_ix, evq_blt, evq_isin, R.bind, R.take, R.toS, SR.seq, takeO, rdO, cellAt, content, truD, runF, outE, lift, q1, bindT, freeB_eq, h7, h8, cl__law_room_1, q2, ixD, a1, a2, hi, evq_app, ownB, hr, hb, dP]
  | some c =>
    have a2 : atI (cs.map dM) (p : Int) = some (.int c) := a2
    have hi : cmpD .isnot (.int (c : Int)) .non = some true := rfl
    by_cases hz : p + 1 = as.length
    · have ee : (rpair as ns cs turn r p).2 = b.map (· + n) := by
        have : (rpair as ns cs turn r p).2 = (rpair as ns cs turn r p).1.map (· + n) := by
          unfold rpair; dsimp only; rw [hc, hn]; dsimp only [Option.getD]; rw [if_pos hz]
        rw [this, eb]
      have e : rpair as ns cs turn r p = (b, b.map (· + n)) := Prod.ext eb ee
      rw [e]
      refine ⟨some (.dat (dM b)), some (.dat (dM (b.map (· + n)))), x9, rfl, rfl, h9, ?_⟩
      clear l1
      generalize b.map (· + n) = z at q2 ⊢
      have hd : cmpD .lt (.int ((p : Int) + 1)) (.int (as.length : Int)) = some false := by
        show some (decide _) = _
        rw [decide_eq_false (by omega)]
      unfold bLR
      unfold envQ at q1 ⊢
      simp [evSs, evS, evs, evr, truR, startE, cellsF, cellF, evq_c, evq_v, evq_bin, evq_cmp, evq_chn, evq_and_, evq_or_, evq_not_, evq_neg, evq_ite, evq_tup, evq_lst, evq_ix, evq_blt, evq_isin, R.bind, R.take, R.toS, SR.seq, takeO, rdO, cellAt, content, truD, runF, outE, lift, q1, bindT, freeB_eq, h7, h8, cl__law_room_1, q2, ixD, a1, a2, hd, hi, binD, addD, len_lst, hlen, evq_app, ownB, hr, hb, dP]
    · obtain ⟨a', ha'⟩ : ∃ a', as[p + 1]? = some a' := ⟨_, List.getElem?_eq_getElem (by omega)⟩
      have a3 : atI (as.map dM) ((p : Int) + 1) = some (dM a') := at_map _ as (p + 1) a' ha'
      have ha'A : ∀ x, a' = some x → x ≤ A := fun x z => hA a' (List.mem_of_getElem? ha') x z
      have hcA : c ≤ A := hC _ (List.mem_of_getElem? hc) c rfl
      have l0 : ∀ x, greM [b, a'] = some x → x ≤ B + A := fun x z => gre_le (Sm.two g1 fun x z => by have := ha'A x z; omega) z
      have l2 : ∀ x, (greM [b, a']).map (· + c) = some x → x ≤ 999999999 := fun x z => by have := add_le l0 z; omega
      have q3 : f__law_max.sem [.lst [dM b, dM a']] = .ok (dM (greM [b, a'])) [] := q_lmax [b, a'] (Sm.two (fun x z => by have := g1 x z; omega) fun x z => by have := ha'A x z; omega) (by show 3 ≤ BIG; decide)
      have q4 := s_lmore (greM [b, a']) c
      have q5 := q_lmin (b.map (· + n)) ((greM [b, a']).map (· + c)) (Sm.two l1 l2)
      have ee : (rpair as ns cs turn r p).2 = lesM (b.map (· + n)) ((greM [b, a']).map (· + c)) := by
        have : (rpair as ns cs turn r p).2 = lesM ((rpair as ns cs turn r p).1.map (· + n)) ((greM [(rpair as ns cs turn r p).1, a']).map (· + c)) := by
          unfold rpair; dsimp only; rw [hc, hn, ha']; dsimp only [Option.getD]; rw [if_neg hz]
        rw [this, eb]
      have e : rpair as ns cs turn r p = (b, lesM (b.map (· + n)) ((greM [b, a']).map (· + c))) := Prod.ext eb ee
      rw [e]
      refine ⟨some (.dat (dM b)), some (.dat (dM (lesM (b.map (· + n)) ((greM [b, a']).map (· + c))))), some (.dat (dM ((greM [b, a']).map (· + c)))), rfl, rfl, rfl, ?_⟩
      clear l0 l1 l2 ee e
      generalize lesM (b.map (· + n)) ((greM [b, a']).map (· + c)) = z at q5 ⊢
      generalize b.map (· + n) = u at q2 q5 ⊢
      generalize (greM [b, a']).map (· + c) = v at q4 q5 ⊢
      generalize greM [b, a'] = w at q3 q4
      have hd : cmpD .lt (.int ((p : Int) + 1)) (.int (as.length : Int)) = some true := by
        show some (decide _) = _
        rw [decide_eq_true (by omega)]
      unfold bLR
      unfold envQ at q1 ⊢
      simp [evSs, evS, evs, evr, truR, startE, cellsF, cellF, evq_c, evq_v, evq_bin, evq_cmp, evq_chn, evq_and_, evq_or_, evq_not_, evq_neg, evq_ite, evq_tup, evq_lst, evq_ix, evq_blt, evq_isin, R.bind, R.take, R.toS, SR.seq, takeO, rdO, cellAt, content, truD, runF, outE, lift, q1, bindT, freeB_eq, h7, h8, h9, cl__law_room_0, cl__law_room_1, cl__law_room_2, q2, q3, q4, q5, ixD, a1, a2, a3, hd, hi, binD, addD, len_lst, hlen, evq_app, ownB, hr, hb, dP]
theorem lroom_loop (hns : ns.length = as.length) (hcs : cs.length = as.length) (hl : as.length ≤ 6) (A : Nat) (hA : Sm A as) (hN : ∀ n, n ∈ ns → n ≤ A) (hC : Sm A cs) (ht : turn ≤ A) (hA9 : A ≤ 1000000) : ∀ (l : List (Option Nat)) (p : Nat) (x5 x6 x7 x8 x9 : Option Cell), as.drop p = l → p ≤ as.length → frC x5 = true → frC x6 = true → frC x7 = true → frC x8 = true → frC x9 = true →
    ∃ y5 y6 y7 y8 y9, forL (.tup [5, 6]) (fun e => evSs g__law_room bLR e) (enumD p (l.map dM)) (envQ as ns cs turn (roomI as ns cs turn p) x5 x6 x7 x8 x9) = .nx (envQ as ns cs turn (roomM as ns cs turn) y5 y6 y7 y8 y9)
  | [], p, x5, x6, x7, x8, x9, hd, hp, _, _, _, _, _ => by
    have : as.length ≤ p := List.drop_eq_nil_iff.mp hd
    have e : p = as.length := by omega
    subst e
    exact ⟨x5, x6, x7, x8, x9, rfl⟩
  | a :: l, p, x5, x6, x7, x8, x9, hd, hp, h5, h6, h7, h8, h9 => by
    have ha : as[p]? = some a := by
      have : (as.drop p)[0]? = some a := by rw [hd]; rfl
      simpa using this
    have hp' : p < as.length := (List.getElem?_eq_some_iff.mp ha).1
    have hBig : BIG = 100000 := rfl
    have hm1 : (2 * p + 1) * A ≤ 13 * A := Nat.mul_le_mul_right A (by omega)
    have hm2 : A ≤ (2 * p + 1) * A := Nat.le_mul_of_pos_left A (by omega)
    obtain ⟨z7, z8, z9, g7, g8, g9, ht'⟩ := lr_turn as ns cs turn hns hcs p a ha (roomI as ns cs turn p) (roomI_len _ _ _ _ _) (by rw [roomI_len]; omega) A ((2 * p + 1) * A) hA hN hC ht (roomI_le hA hN hC ht p) hm2 (by omega) x7 x8 x9 h7 h8 h9
    have hd' : as.drop (p + 1) = l := by
      have : (as.drop p).drop 1 = l := by rw [hd]; rfl
      rwa [List.drop_drop] at this
    obtain ⟨y5, y6, y7, y8, y9, h⟩ := lroom_loop hns hcs hl A hA hN hC ht hA9 l (p + 1) (some (.dat (.int p))) (some (.dat (dM a))) z7 z8 z9 hd' (by omega) rfl rfl g7 g8 g9
    refine ⟨y5, y6, y7, y8, y9, ?_⟩
    have hb : bindT (.tup [5, 6]) (.tup [.int p, dM a]) (envQ as ns cs turn (roomI as ns cs turn p) x5 x6 x7 x8 x9) = some (envQ as ns cs turn (roomI as ns cs turn p) (some (.dat (.int p))) (some (.dat (dM a))) x7 x8 x9) := by
      unfold bindT envQ
      simp [freeB_eq, h5, h6]
    rw [List.map_cons, enumD, forL, hb]
    dsimp only
    rw [ht']
    exact h
theorem s_lroom (hns : ns.length = as.length) (hcs : cs.length = as.length) (hl : as.length ≤ 6) (A : Nat) (hA : Sm A as) (hN : ∀ n, n ∈ ns → n ≤ A) (hC : Sm A cs) (ht : turn ≤ A) (hA9 : A ≤ 1000000) :
    f__law_room.sem [.lst (as.map dM), .lst (dNs ns), .int turn, .lst (cs.map dM)] = .ok (dR (roomM as ns cs turn)) [] := by
  obtain ⟨y5, y6, y7, y8, y9, hf⟩ := lroom_loop as ns cs turn hns hcs hl A hA hN hC ht hA9 as 0 none none none none none rfl (by omega) rfl rfl rfl rfl rfl
  have e : evi g__law_room (.enum (.v 0)) (envQ as ns cs turn [] none none none none none) = .ok (enumD 0 (as.map dM)) (envQ as ns cs turn [] none none none none none) := rfl
  have hf : forL (.tup [5, 6]) (fun e => evSs g__law_room bLR e) (enumD 0 (as.map dM)) (envQ as ns cs turn [] none none none none none) = .nx (envQ as ns cs turn (roomM as ns cs turn) y5 y6 y7 y8 y9) := hf
  generalize enumD 0 (as.map dM) = zs at e hf
  unfold envQ at e hf
  rw [List.map_nil] at e hf
  have e0 : b__law_room = [.new 4 (.lst []), .for_ (.tup [5, 6]) (.enum (.v 0)) bLR, .ret (.v 4)] := rfl
  show semB g__law_room 10 none b__law_room [.lst (as.map dM), .lst (dNs ns), .int turn, .lst (cs.map dM)] = _
  unfold semB
  rw [e0]
  simp [evSs, evS, evs, evr, truR, startE, cellsF, cellF, evq_c, evq_v, evq_bin, evq_cmp, evq_chn, evq_and_, evq_or_, evq_not_, evq_neg, evq_ite, evq_tup, evq_lst, evq_ix, evq_blt, evq_isin, R.bind, R.take, R.toS, SR.seq, takeO, rdO, cellAt, content, truD, runF, outE, lift, evL, freeB_eq, e, hf]
  rfl
end
end Mp
set_option maxHeartbeats 4000000
namespace Mp
open PySem L2
variable [TabsW] [GdW]
theorem s_is_listedT (ds : List D) : f_is_listed.sem [.tup ds] = .ok (.bl true) [] := by rfl
theorem len_tup (ds : List D) : bltD .len [.tup ds] = some (.int ds.length) := rfl
theorem s_need_minutesT (s : D) (ms : List (Option Nat)) (hl : ms.length ≤ BIG) : f_need_minutes.sem [s, .tup (ms.map dM)] = .ok .non [] := by
  have L : ev g_need_minutes (.lc (.name 2) (.seq (.v 1)) none (.call 1 [.v 2]) [2]) [some (.dat s), some (.dat (.tup (ms.map dM))), none] = .ok (.val (.lst (List.replicate ms.length (D.bl true)))) [some (.dat s), some (.dat (.tup (ms.map dM))), none] := by
    have := ev_lc_run (G := g_need_minutes) (i := 2) (it := .seq (.v 1)) (t := none) (e := .call 1 [.v 2]) (env := [some (.dat s), some (.dat (.tup (ms.map dM))), none]) (env0 := [some (.dat s), some (.dat (.tup (ms.map dM))), none]) (ds := ms.map dM) (fun _ => true) (fun _ => .bl true) rfl (by simpa using hl) rfl (by simp) (fun d hd => rfl) (fun d hd _ => by
      obtain ⟨m, _, rfl⟩ := List.mem_map.mp hd
      rw [cl_need_minutes_1]
      show R.take (runF _ (f_is_count_or_never.sem [dM m])) = _
      rw [s_con]
      rfl)
    rw [this]
    congr 3
    rw [List.map_const', List.filter_eq_self.mpr (fun _ _ => rfl), List.length_map]
  show semB g_need_minutes 3 none b_need_minutes [s, .tup (ms.map dM)] = _
  unfold semB b_need_minutes
  simp [evSs, evS, evs, evr, truR, startE, cellsF, cellF, evq_c, evq_v, evq_bin, evq_cmp, evq_chn, evq_and_, evq_or_, evq_not_, evq_neg, evq_ite, evq_tup, evq_lst, evq_ix, evq_blt, evq_isin, R.bind, R.take, R.toS, SR.seq, takeO, rdO, cellAt, content, truD, runF, outE, lift, cl_need_minutes_0, s_is_listedT, L, all_true]
theorem s_nth_leastT (ms : List (Option Nat)) (n : Nat) (h1 : 1 ≤ n) (hl : ms.length ≤ BIG) : f_nth_least.sem [.tup (ms.map dM), .int n] = .ok (dM (nthM ms n)) [] := by
  have L : ev g_nth_least (.lc (.name 3) (.seq (.v 0)) (some (.cmp .isnot (.v 3) (.c .non))) (.blt .int [.v 3]) [3]) [some (.dat (.tup (ms.map dM))), some (.dat (.int n)), none, none] = .ok (.val (.lst ((ms.filterMap id).map fun n : Nat => D.int (n : Int)))) [some (.dat (.tup (ms.map dM))), some (.dat (.int n)), none, none] := by
    rw [← told_nat]
    exact ev_lc_run (G := g_nth_least) (i := 3) (it := .seq (.v 0)) (t := some (.cmp .isnot (.v 3) (.c .non))) (e := .blt .int [.v 3]) (env := [some (.dat (.tup (ms.map dM))), some (.dat (.int n)), none, none]) (env0 := [some (.dat (.tup (ms.map dM))), some (.dat (.int n)), none, none]) (ds := ms.map dM) notN (fun d => match d with | .int i => D.int i | d => d) rfl (by simpa using hl) rfl (by simp) (fun d hd => by
      obtain ⟨m, _, rfl⟩ := List.mem_map.mp hd
      cases m <;> rfl) (fun d hd hp => by
      obtain ⟨m, _, rfl⟩ := List.mem_map.mp hd
      cases m with
      | none => cases hp
      | some n => rfl)
  show semB g_nth_least 4 none b_nth_least [.tup (ms.map dM), .int n] = _
  unfold semB b_nth_least
  have hS : (ms.filterMap id).mergeSort = srt ms := rfl
  by_cases hn : n ≤ (srt ms).length
  · have hat : atI ((srt ms).map fun n : Nat => D.int (n : Int)) ((n : Int) - 1) = some (dM (nthM ms n)) := by
      unfold atI
      rw [ix_in' (by omega) (by rw [List.length_map]; omega)]
      have e : ((n : Int) - 1).toNat = n - 1 := by omega
      rw [e]
      show ((srt ms).map fun n : Nat => D.int (n : Int))[n - 1]? = _
      rw [List.getElem?_map]
      unfold nthM
      rw [List.getElem?_eq_getElem (by omega)]
      rfl
    have hle : (n : Int) ≤ ((srt ms).length : Int) := by omega
    simp [evSs, evS, evs, evr, truR, startE, cellsF, cellF, evq_c, evq_v, evq_bin, evq_cmp, evq_chn, evq_and_, evq_or_, evq_not_, evq_neg, evq_ite, evq_tup, evq_lst, evq_ix, evq_blt, evq_isin, R.bind, R.take, R.toS, SR.seq, takeO, rdO, cellAt, content, truD, runF, outE, lift, L, sorted_nat, hS, bindT, freeB, len_lst, cmpD, binD, subD, ixD, hat, hle]
  · have hat : nthM ms n = none := by
      unfold nthM
      exact List.getElem?_eq_none (by omega)
    have hle : ¬ (n : Int) ≤ ((srt ms).length : Int) := by omega
    simp [evSs, evS, evs, evr, truR, startE, cellsF, cellF, evq_c, evq_v, evq_bin, evq_cmp, evq_chn, evq_and_, evq_or_, evq_not_, evq_neg, evq_ite, evq_tup, evq_lst, evq_ix, evq_blt, evq_isin, R.bind, R.take, R.toS, SR.seq, takeO, rdO, cellAt, content, truD, runF, outE, lift, L, sorted_nat, hS, bindT, freeB, len_lst, cmpD, binD, subD, ixD, hat, hle, dM]
theorem s_need_nthT (ms : List (Option Nat)) (n : Nat) (h1 : 1 ≤ n) (hl : ms.length ≤ BIG) : f_need_nth.sem [.tup (ms.map dM), .int n] = .ok .non [] := by
  have q1 := s_need_minutesT (.str "moments") ms hl
  have q2 := s_whole n
  have c : ¬ ((n : Int) < 1) := by omega
  show semB g_need_nth 2 none b_need_nth [.tup (ms.map dM), .int n] = _
  unfold semB b_need_nth
  simp [evSs, evS, evs, evr, truR, startE, cellsF, cellF, evq_c, evq_v, evq_bin, evq_cmp, evq_chn, evq_and_, evq_or_, evq_not_, evq_neg, evq_ite, evq_tup, evq_lst, evq_ix, evq_blt, evq_isin, R.bind, R.take, R.toS, SR.seq, takeO, rdO, cellAt, content, truD, runF, outE, lift, cl_need_nth_0, cl_need_nth_1, q1, q2, cmpD, c]
theorem s_nthT (ms : List (Option Nat)) (n : Nat) (h1 : 1 ≤ n) (hl : ms.length ≤ BIG) : f_nth.sem [.tup (ms.map dM), .int n] = .ok (dM (nthM ms n)) [] := by
  have q1 := s_need_nthT ms n h1 hl
  have q2 := s_nth_leastT ms n h1 hl
  show semB g_nth 2 none b_nth [.tup (ms.map dM), .int n] = _
  unfold semB b_nth
  simp [evSs, evS, evs, evr, truR, startE, cellsF, cellF, evq_c, evq_v, evq_bin, evq_cmp, evq_chn, evq_and_, evq_or_, evq_not_, evq_neg, evq_ite, evq_tup, evq_lst, evq_ix, evq_blt, evq_isin, R.bind, R.take, R.toS, SR.seq, takeO, rdO, cellAt, content, truD, runF, outE, lift, cl_nth_0, cl_nth_1, q1, q2]
theorem s_need_quorumT (q : Nat) (ms : List D) (h1 : 1 ≤ q) (h2 : q ≤ ms.length) : f_need_quorum.sem [.int q, .tup ms] = .ok .non [] := by
  have b := s_between q 1 ms.length h1 h2
  have b' : f_is_between.sem [.int q, .int 1, .int ms.length] = .ok (.bl true) [] := b
  show semB g_need_quorum 2 none b_need_quorum [.int q, .tup ms] = _
  unfold semB b_need_quorum
  simp [evSs, evS, evs, evr, truR, startE, cellsF, cellF, evq_c, evq_v, evq_bin, evq_cmp, evq_chn, evq_and_, evq_or_, evq_not_, evq_neg, evq_ite, evq_tup, evq_lst, evq_ix, evq_blt, evq_isin, R.bind, R.take, R.toS, SR.seq, takeO, rdO, cellAt, content, truD, runF, outE, lift, cl_need_quorum_0, b', len_tup]
theorem s_meeting_beginT (opens q : Nat) (as : List (Option Nat)) (h1 : 1 ≤ q) (h2 : q ≤ as.length) (hl : as.length ≤ BIG) :
    f_meeting_begin.sem [.int opens, .tup (as.map dM), .int q] = .ok (dM (greM [some opens, nthM as q])) [] := by
  have q1 := s_ncount opens
  have q2 := s_need_minutesT (.str "arrivals") as hl
  have q3 := s_need_quorumT q (as.map dM) h1 (by simpa using h2)
  have q4 := s_nthT as q h1 hl
  have q5 : f_greatest.sem [.lst [.int opens, dM (nthM as q)]] = _ := s_greatest [some opens, nthM as q] (by show 2 ≤ BIG; decide)
  have hb : 2 ≤ BIG := by decide
  show semB g_meeting_begin 3 none b_meeting_begin [.int opens, .tup (as.map dM), .int q] = _
  unfold semB b_meeting_begin
  simp [evSs, evS, evs, evr, truR, startE, cellsF, cellF, evq_c, evq_v, evq_bin, evq_cmp, evq_chn, evq_and_, evq_or_, evq_not_, evq_neg, evq_ite, evq_tup, evq_lst, evq_ix, evq_blt, evq_isin, R.bind, R.take, R.toS, SR.seq, takeO, rdO, cellAt, content, truD, runF, outE, lift, cl_meeting_begin_0, cl_meeting_begin_1, cl_meeting_begin_2, cl_meeting_begin_3, cl_meeting_begin_4, q1, q2, q3, q4, q5, hb]
section
variable (as : List (Option Nat)) (ns : List Nat) (cs : List (Option Nat)) (turn : Nat)
theorem s_noticesT (hl : cs.length ≤ BIG) : f_need_notices.sem [.tup (cs.map dM), .int cs.length] = .ok .non [] := by
  have L : ev g_need_notices (.lc (.name 2) (.seq (.v 0)) none (.or_ (.cmp .is_ (.v 2) (.c .non)) (.call 1 [.v 2])) [2]) [some (.dat (.tup (cs.map dM))), some (.dat (.int cs.length)), none] = .ok (.val (.lst (List.replicate cs.length (D.bl true)))) [some (.dat (.tup (cs.map dM))), some (.dat (.int cs.length)), none] := by
    have := ev_lc_run (G := g_need_notices) (i := 2) (it := .seq (.v 0)) (t := none) (e := .or_ (.cmp .is_ (.v 2) (.c .non)) (.call 1 [.v 2])) (env := [some (.dat (.tup (cs.map dM))), some (.dat (.int cs.length)), none]) (env0 := [some (.dat (.tup (cs.map dM))), some (.dat (.int cs.length)), none]) (ds := cs.map dM) (fun _ => true) (fun _ => .bl true) rfl (by simpa using hl) rfl (by simp) (fun d hd => rfl) (fun d hd _ => by
      obtain ⟨m, _, rfl⟩ := List.mem_map.mp hd
      cases m with
      | none => rfl
      | some m =>
        have q := s_count m
        simp [evSs, evS, evs, evr, truR, startE, cellsF, cellF, evq_c, evq_v, evq_bin, evq_cmp, evq_chn, evq_and_, evq_or_, evq_not_, evq_neg, evq_ite, evq_tup, evq_lst, evq_ix, evq_blt, evq_isin, R.bind, R.take, R.toS, SR.seq, takeO, rdO, cellAt, content, truD, runF, outE, lift, cl_need_notices_1, cmpD, isNon, dM, q])
    rw [this]
    congr 3
    rw [List.map_const', List.filter_eq_self.mpr (fun _ _ => rfl)]
    simp
  have hlen : (cs.map dM).length = cs.length := by simp
  have hd : cmpD .ne (.int (cs.length : Int)) (.int (cs.length : Int)) = some false := by simp [cmpD, dataD, eqD]
  show semB g_need_notices 3 none b_need_notices [.tup (cs.map dM), .int cs.length] = _
  unfold semB b_need_notices
  simp [evSs, evS, evs, evr, truR, startE, cellsF, cellF, evq_c, evq_v, evq_bin, evq_cmp, evq_chn, evq_and_, evq_or_, evq_not_, evq_neg, evq_ite, evq_tup, evq_lst, evq_ix, evq_blt, evq_isin, R.bind, R.take, R.toS, SR.seq, takeO, rdO, cellAt, content, truD, runF, outE, lift, cl_need_notices_0, s_is_listedT, L, all_true, len_tup, hlen, hd]
def envRT (r : Row) (x5 x6 x7 x8 : Option Cell) : Env := [some (.dat (.lst (as.map dM))), some (.dat (.lst (dNs ns))), some (.dat (.int turn)), some (.dat (.tup (cs.map dM))), some (.own (r.map dP)), x5, x6, x7, x8]
theorem rr_beginT (r : Row) (p : Nat) (a : Option Nat) (x7 x8 : Option Cell) : ev g_room_row (.ite (.v 4) (.call 4 [.v 6, .ix (.ix (.v 4) (.neg (.c (.int 1)))) (.c (.int 1)), .v 2]) (.v 6)) (envRT as ns cs turn r (some (.dat (.int p))) (some (.dat (dM a))) x7 x8) = .ok (.val (dM (rbeg turn r a))) (envRT as ns cs turn r (some (.dat (.int p))) (some (.dat (dM a))) x7 x8) := by
  unfold envRT
  by_cases h : r = []
  · subst h
    simp [evSs, evS, evs, evr, truR, startE, cellsF, cellF, evq_c, evq_v, evq_bin, evq_cmp, evq_chn, evq_and_, evq_or_, evq_not_, evq_neg, evq_ite, evq_tup, evq_lst, evq_ix, evq_blt, evq_isin, R.bind, R.take, R.toS, SR.seq, takeO, rdO, cellAt, content, truD, runF, outE, lift, rbeg]
  · obtain ⟨q, h1, h2⟩ := last_row r h
    have h3 : r.isEmpty = false := by cases r with
      | nil => exact absurd rfl h
      | cons _ _ => rfl
    have e : rbeg turn r a = greM [a, q.2.map (· + turn)] := by unfold rbeg; rw [h1]
    have h4 : atI [dM q.1, dM q.2] 1 = some (dM q.2) := rfl
    have h5 := s_room_begin a q.2 turn
    rw [e]
    generalize greM [a, q.2.map (· + turn)] = z at h5 ⊢
    simp [evSs, evS, evs, evr, truR, startE, cellsF, cellF, evq_c, evq_v, evq_bin, evq_cmp, evq_chn, evq_and_, evq_or_, evq_not_, evq_neg, evq_ite, evq_tup, evq_lst, evq_ix, evq_blt, evq_isin, R.bind, R.take, R.toS, SR.seq, takeO, rdO, cellAt, content, truD, runF, outE, lift, h3, ixD, h2, dP, h4, cl_room_row_4, h5]
theorem rr_turnT (hns : ns.length = as.length) (hcs : cs.length = as.length) (p : Nat) (a : Option Nat) (ha : as[p]? = some a) (r : Row) (hr : r.length < BIG) (x7 x8 : Option Cell) (h7 : frC x7 = true) (h8 : frC x8 = true) :
    ∃ y7 y8, frC y7 = true ∧ frC y8 = true ∧ evSs g_room_row bRR (envRT as ns cs turn r (some (.dat (.int p))) (some (.dat (dM a))) x7 x8) = .nx (envRT as ns cs turn (r ++ [rpair as ns cs turn r p]) (some (.dat (.int p))) (some (.dat (dM a))) y7 y8) := by
  have hp : p < as.length := (List.getElem?_eq_some_iff.mp ha).1
  obtain ⟨n, hn⟩ : ∃ n, ns[p]? = some n := ⟨_, List.getElem?_eq_getElem (by omega)⟩
  obtain ⟨c, hc⟩ : ∃ c, cs[p]? = some c := ⟨_, List.getElem?_eq_getElem (by omega)⟩
  have q1 := rr_beginT as ns cs turn r p a x7 x8
  have a1 : atI (dNs ns) (p : Int) = some (.int n) := at_map _ ns p n hn
  have a2 : atI (cs.map dM) (p : Int) = some (dM c) := at_map _ cs p c hc
  have hb : 2 ≤ BIG := by decide
  have hlen : (as.map dM).length = as.length := by simp
  have eb : (rpair as ns cs turn r p).1 = rbeg turn r a := by
    unfold rpair rbeg
    rw [ha]; rfl
  generalize hB : rbeg turn r a = b at q1 eb
  have q2 := s_room_end b n
  cases c with
  | none =>
    have ee : (rpair as ns cs turn r p).2 = b.map (· + n) := by
      have : (rpair as ns cs turn r p).2 = (rpair as ns cs turn r p).1.map (· + n) := by
        unfold rpair; dsimp only; rw [hc, hn]; rfl
      rw [this, eb]
    have e : rpair as ns cs turn r p = (b, b.map (· + n)) := Prod.ext eb ee
    rw [e]
    refine ⟨some (.dat (dM b)), some (.dat (dM (b.map (· + n)))), rfl, rfl, ?_⟩
    generalize b.map (· + n) = z at q2 ⊢
    have a2 : atI (cs.map dM) (p : Int) = some .non := a2
    unfold bRR
    unfold envRT at q1 ⊢
    simp [evSs, evS, evs, evr, truR, startE, cellsF, cellF, evq_c, evq_v, evq_bin, evq_cmp, evq_chn, evq_and_, evq_or_, evq_not_, evq_neg, evq_ite, evq_tup, evq_lst, evq_ix, evq_blt, evq_isin, R.bind, R.take, R.toS, SR.seq, takeO, rdO, cellAt, content, truD, runF, outE, lift, q1, bindT, freeB_eq, h7, h8, cl_room_row_5, q2, ixD, a1, a2, cmpD, isNon, evq_app, ownB, hr, hb, dP]
  | some c =>
    have a2 : atI (cs.map dM) (p : Int) = some (.int c) := a2
    by_cases hz : p + 1 = as.length
    · have ee : (rpair as ns cs turn r p).2 = b.map (· + n) := by
        have : (rpair as ns cs turn r p).2 = (rpair as ns cs turn r p).1.map (· + n) := by
          unfold rpair; dsimp only; rw [hc, hn]; dsimp only [Option.getD]; rw [if_pos hz]
        rw [this, eb]
      have e : rpair as ns cs turn r p = (b, b.map (· + n)) := Prod.ext eb ee
      rw [e]
      refine ⟨some (.dat (dM b)), some (.dat (dM (b.map (· + n)))), rfl, rfl, ?_⟩
      generalize b.map (· + n) = z at q2 ⊢
      have hd : cmpD .eq (.int ((p : Int) + 1)) (.int (as.length : Int)) = some true := by
        have : ((p : Int) + 1) = (as.length : Int) := by omega
        simp [cmpD, dataD, eqD, this]
      have hi : cmpD .is_ (.int (c : Int)) .non = some false := rfl
      unfold bRR
      unfold envRT at q1 ⊢
      simp [evSs, evS, evs, evr, truR, startE, cellsF, cellF, evq_c, evq_v, evq_bin, evq_cmp, evq_chn, evq_and_, evq_or_, evq_not_, evq_neg, evq_ite, evq_tup, evq_lst, evq_ix, evq_blt, evq_isin, R.bind, R.take, R.toS, SR.seq, takeO, rdO, cellAt, content, truD, runF, outE, lift, q1, bindT, freeB_eq, h7, h8, cl_room_row_5, q2, ixD, a1, a2, hd, hi, binD, addD, len_lst, hlen, evq_app, ownB, hr, hb, dP]
    · obtain ⟨a', ha'⟩ : ∃ a', as[p + 1]? = some a' := ⟨_, List.getElem?_eq_getElem (by omega)⟩
      have a3 : atI (as.map dM) ((p : Int) + 1) = some (dM a') := at_map _ as (p + 1) a' ha'
      have q3 := s_guest_end b n c a'
      have ee : (rpair as ns cs turn r p).2 = lesM (b.map (· + n)) ((greM [b, a']).map (· + c)) := by
        have : (rpair as ns cs turn r p).2 = lesM ((rpair as ns cs turn r p).1.map (· + n)) ((greM [(rpair as ns cs turn r p).1, a']).map (· + c)) := by
          unfold rpair; dsimp only; rw [hc, hn, ha']; dsimp only [Option.getD]; rw [if_neg hz]
        rw [this, eb]
      have e : rpair as ns cs turn r p = (b, lesM (b.map (· + n)) ((greM [b, a']).map (· + c))) := Prod.ext eb ee
      rw [e]
      refine ⟨some (.dat (dM b)), some (.dat (dM (lesM (b.map (· + n)) ((greM [b, a']).map (· + c))))), rfl, rfl, ?_⟩
      generalize lesM (b.map (· + n)) ((greM [b, a']).map (· + c)) = z at q3 ⊢
      have hd : cmpD .eq (.int ((p : Int) + 1)) (.int (as.length : Int)) = some false := by
        have : ¬ ((p : Int) + 1) = (as.length : Int) := by omega
        simp [cmpD, dataD, eqD, this]
      have hi : cmpD .is_ (.int (c : Int)) .non = some false := rfl
      unfold bRR
      unfold envRT at q1 ⊢
      simp [evSs, evS, evs, evr, truR, startE, cellsF, cellF, evq_c, evq_v, evq_bin, evq_cmp, evq_chn, evq_and_, evq_or_, evq_not_, evq_neg, evq_ite, evq_tup, evq_lst, evq_ix, evq_blt, evq_isin, R.bind, R.take, R.toS, SR.seq, takeO, rdO, cellAt, content, truD, runF, outE, lift, q1, bindT, freeB_eq, h7, h8, cl_room_row_6, q3, ixD, a1, a2, a3, hd, hi, binD, addD, len_lst, hlen, evq_app, ownB, hr, hb, dP]
theorem room_loopT (hns : ns.length = as.length) (hcs : cs.length = as.length) (hl : as.length ≤ BIG) : ∀ (l : List (Option Nat)) (p : Nat) (x5 x6 x7 x8 : Option Cell), as.drop p = l → p ≤ as.length → frC x5 = true → frC x6 = true → frC x7 = true → frC x8 = true →
    ∃ y5 y6 y7 y8, forL (.tup [5, 6]) (fun e => evSs g_room_row bRR e) (enumD p (l.map dM)) (envRT as ns cs turn (roomI as ns cs turn p) x5 x6 x7 x8) = .nx (envRT as ns cs turn (roomM as ns cs turn) y5 y6 y7 y8)
  | [], p, x5, x6, x7, x8, hd, hp, _, _, _, _ => by
    have : as.length ≤ p := List.drop_eq_nil_iff.mp hd
    have e : p = as.length := by omega
    subst e
    exact ⟨x5, x6, x7, x8, rfl⟩
  | a :: l, p, x5, x6, x7, x8, hd, hp, h5, h6, h7, h8 => by
    have ha : as[p]? = some a := by
      have : (as.drop p)[0]? = some a := by rw [hd]; rfl
      simpa using this
    have hp' : p < as.length := (List.getElem?_eq_some_iff.mp ha).1
    obtain ⟨z7, z8, g7, g8, ht⟩ := rr_turnT as ns cs turn hns hcs p a ha (roomI as ns cs turn p) (by rw [roomI_len]; omega) x7 x8 h7 h8
    have hd' : as.drop (p + 1) = l := by
      have : (as.drop p).drop 1 = l := by rw [hd]; rfl
      rwa [List.drop_drop] at this
    obtain ⟨y5, y6, y7, y8, h⟩ := room_loopT hns hcs hl l (p + 1) (some (.dat (.int p))) (some (.dat (dM a))) z7 z8 hd' (by omega) rfl rfl g7 g8
    refine ⟨y5, y6, y7, y8, ?_⟩
    have hb : bindT (.tup [5, 6]) (.tup [.int p, dM a]) (envRT as ns cs turn (roomI as ns cs turn p) x5 x6 x7 x8) = some (envRT as ns cs turn (roomI as ns cs turn p) (some (.dat (.int p))) (some (.dat (dM a))) x7 x8) := by
      unfold bindT envRT
      simp [freeB_eq, h5, h6]
    rw [List.map_cons, enumD, forL, hb]
    dsimp only
    rw [ht]
    exact h
theorem s_room_rowT (hns : ns.length = as.length) (hcs : cs.length = as.length) (hl : as.length ≤ BIG) :
    f_room_row.sem [.lst (as.map dM), .lst (dNs ns), .int turn, .tup (cs.map dM)] = .ok (dR (roomM as ns cs turn)) [] := by
  have q1 := s_need_minutes (.str "arrivals") as hl
  have q2 := s_lengths ns (by omega)
  rw [hns] at q2
  have q3 := s_ncount turn
  have q4 := s_noticesT cs (by omega)
  rw [hcs] at q4
  have hlen : (as.map dM).length = as.length := by simp
  obtain ⟨y5, y6, y7, y8, hf⟩ := room_loopT as ns cs turn hns hcs hl as 0 none none none none rfl (by omega) rfl rfl rfl rfl
  have e : evi g_room_row (.enum (.v 0)) (envRT as ns cs turn [] none none none none) = .ok (enumD 0 (as.map dM)) (envRT as ns cs turn [] none none none none) := rfl
  have hf : forL (.tup [5, 6]) (fun e => evSs g_room_row bRR e) (enumD 0 (as.map dM)) (envRT as ns cs turn [] none none none none) = .nx (envRT as ns cs turn (roomM as ns cs turn) y5 y6 y7 y8) := hf
  generalize enumD 0 (as.map dM) = zs at e hf
  unfold envRT at e hf
  rw [List.map_nil] at e hf
  have e0 : b_room_row = [.expr (.call 0 [.c (.str "arrivals"), .v 0]), .expr (.call 1 [.v 1, .blt .len [.v 0]]), .expr (.call 2 [.v 2]), .expr (.call 3 [.v 3, .blt .len [.v 0]]), .new 4 (.lst []), .for_ (.tup [5, 6]) (.enum (.v 0)) bRR, .ret (.v 4)] := rfl
  show semB g_room_row 9 none b_room_row [.lst (as.map dM), .lst (dNs ns), .int turn, .tup (cs.map dM)] = _
  unfold semB
  rw [e0]
  simp [evSs, evS, evs, evr, truR, startE, cellsF, cellF, evq_c, evq_v, evq_bin, evq_cmp, evq_chn, evq_and_, evq_or_, evq_not_, evq_neg, evq_ite, evq_tup, evq_lst, evq_ix, evq_blt, evq_isin, R.bind, R.take, R.toS, SR.seq, takeO, rdO, cellAt, content, truD, runF, outE, lift, cl_room_row_0, cl_room_row_1, cl_room_row_2, cl_room_row_3, q1, q2, q3, q4, len_lst, hlen, evL, freeB_eq, e, hf]
  rfl
end
end Mp
set_option maxHeartbeats 4000000
namespace Mp
open PySem L2
variable [TabsW] [GdW]
theorem data_dM {n : Nat} (m : Option Nat) : dataD n (dM m) = true := by
  cases m with
  | none => exact dataD_non
  | some m => exact dataD_int
theorem data_dP {n : Nat} (p : Option Nat × Option Nat) : dataD (n + 1) (dP p) = true := dataD_tup fun d hd => by
  simp only [List.mem_cons, List.not_mem_nil, or_false] at hd
  rcases hd with rfl | rfl <;> exact data_dM _
theorem data_dR (r : Row) : dataD 20 (dR r) = true := dataD_lst fun d hd => by
  obtain ⟨p, _, rfl⟩ := List.mem_map.mp hd
  exact data_dP p
theorem data_dL (ms : List (Option Nat)) : dataD 20 (.lst (ms.map dM)) = true := dataD_lst fun d hd => by
  obtain ⟨p, _, rfl⟩ := List.mem_map.mp hd
  exact data_dM p
theorem s_meeting_right (as : List (Option Nat)) (opens len q A : Nat) (h1 : 1 ≤ q) (h2 : q ≤ as.length) (hl : as.length ≤ 6) (hA : Sm A as) (ho : opens ≤ A) (hlen : len ≤ A) (hA9 : A ≤ 1000000) :
    f__law_meeting_right.sem [.lst (as.map dM), .int opens, .int len, .int q] = .ok (.bl true) [] := by
  have hBig : BIG = 100000 := rfl
  have hsm : Sm 999999999 as := fun m hm a e => by have := hA m hm a e; omega
  have q1 := q_lnth as q h1 hsm (by omega)
  have bn : ∀ x, nthM as q = some x → x ≤ A := fun x z => hA _ (nth_mem z) x rfl
  have q2 : f__law_max.sem [.lst [.int opens, dM (nthM as q)]] = .ok (dM (greM [some opens, nthM as q])) [] := q_lmax [some opens, nthM as q] (Sm.two (fun x z => by cases z; omega) fun x z => by have := bn x z; omega) (by show 3 ≤ BIG; decide)
  have bb : ∀ x, greM [some opens, nthM as q] = some x → x ≤ A := fun x z => gre_le (Sm.two (fun x z => by cases z; omega) bn) z
  have r1 := s_meeting_row opens len q as h1 h2 (by omega)
  have r2 := s_meeting_beginT opens q as h1 h2 (by omega)
  have eM : meetM opens len q as = as.map fun a => (greM [some opens, nthM as q], greM [(greM [some opens, nthM as q]).map (· + len), a]) := rfl
  generalize greM [some opens, nthM as q] = b at q2 bb r2 eM
  have q3 := s_lmore b len
  have bl : ∀ x, b.map (· + len) = some x → x ≤ 2 * A := fun x z => by have := add_le bb z; omega
  have q4 : ∀ a, a ∈ as → f__law_max.sem [.lst [dM (b.map (· + len)), dM a]] = .ok (dM (greM [b.map (· + len), a])) [] := fun a ha => q_lmax [b.map (· + len), a] (Sm.two (fun x z => by have := bl x z; omega) fun x z => by have := hA a ha x z; omega) (by show 3 ≤ BIG; decide)
  have q5 : ∀ a, f_meeting_end.sem [dM b, .int len, dM a] = .ok (dM (greM [b.map (· + len), a])) [] := s_meeting_end b len
  have hb : 2 ≤ BIG := by decide
  have L1 : ev g__law_meeting_right (.lc (.name 6) (.seq (.v 0)) none (.tup [.v 4, .call 0 [.lst [.call 2 [.v 4, .v 2], .v 6]]]) [6]) [some (.dat (.lst (as.map dM))), some (.dat (.int opens)), some (.dat (.int len)), some (.dat (.int q)), some (.dat (dM b)), none, none, none] = .ok (.val (dR (meetM opens len q as))) [some (.dat (.lst (as.map dM))), some (.dat (.int opens)), some (.dat (.int len)), some (.dat (.int q)), some (.dat (dM b)), none, none, none] := by
    rw [eM]
    unfold dR
    rw [List.map_map]
    refine ev_lc_map (f := dM) (l := as) rfl (by omega) rfl (by simp) fun a ha => ?_
    have z := q4 a ha
    show (ev g__law_meeting_right (.tup [.v 4, .call 0 [.lst [.call 2 [.v 4, .v 2], .v 6]]]) [some (.dat (.lst (as.map dM))), some (.dat (.int opens)), some (.dat (.int len)), some (.dat (.int q)), some (.dat (dM b)), none, some (.dat (dM a)), none]).take = .ok (.tup [dM b, dM (greM [b.map (· + len), a])]) [some (.dat (.lst (as.map dM))), some (.dat (.int opens)), some (.dat (.int len)), some (.dat (.int q)), some (.dat (dM b)), none, some (.dat (dM a)), none]
    clear q4 q5 bl
    generalize greM [b.map (· + len), a] = y at z ⊢
    generalize b.map (· + len) = w at z q3
    generalize as.map dM = X at *
    simp [evSs, evS, evs, evr, truR, startE, cellsF, cellF, evq_c, evq_v, evq_bin, evq_cmp, evq_chn, evq_and_, evq_or_, evq_not_, evq_neg, evq_ite, evq_tup, evq_lst, evq_ix, evq_blt, evq_isin, R.bind, R.take, R.toS, SR.seq, takeO, rdO, cellAt, content, truD, runF, outE, lift, cl__law_meeting_right_0, cl__law_meeting_right_2, q3, z, hb]
  have L2 : ∀ DU : D, ev g__law_meeting_right (.lc (.name 6) (.seq (.v 0)) none (.call 5 [.v 4, .v 2, .v 6]) [6]) [some (.dat (.lst (as.map dM))), some (.dat (.int opens)), some (.dat (.int len)), some (.dat (.int q)), some (.dat (dM b)), some (.dat DU), none, none] = .ok (.val (.lst ((as.map fun a => greM [b.map (· + len), a]).map dM))) [some (.dat (.lst (as.map dM))), some (.dat (.int opens)), some (.dat (.int len)), some (.dat (.int q)), some (.dat (dM b)), some (.dat DU), none, none] := by
    intro DU
    rw [List.map_map]
    refine ev_lc_map (f := dM) (l := as) rfl (by omega) rfl (by simp) fun a ha => ?_
    have z := q5 a
    show (ev g__law_meeting_right (.call 5 [.v 4, .v 2, .v 6]) [some (.dat (.lst (as.map dM))), some (.dat (.int opens)), some (.dat (.int len)), some (.dat (.int q)), some (.dat (dM b)), some (.dat DU), some (.dat (dM a)), none]).take = .ok (dM (greM [b.map (· + len), a])) [some (.dat (.lst (as.map dM))), some (.dat (.int opens)), some (.dat (.int len)), some (.dat (.int q)), some (.dat (dM b)), some (.dat DU), some (.dat (dM a)), none]
    clear q4 q5 bl
    generalize greM [b.map (· + len), a] = y at z ⊢
    generalize as.map dM = X at *
    simp [evSs, evS, evs, evr, truR, startE, cellsF, cellF, evq_c, evq_v, evq_bin, evq_cmp, evq_chn, evq_and_, evq_or_, evq_not_, evq_neg, evq_ite, evq_tup, evq_lst, evq_ix, evq_blt, evq_isin, R.bind, R.take, R.toS, SR.seq, takeO, rdO, cellAt, content, truD, runF, outE, lift, cl__law_meeting_right_5, z]
  have L3 : ev g__law_meeting_right (.lc (.name 7) (.seq (.v 5)) none (.ix (.v 7) (.c (.int 1))) [7]) [some (.dat (.lst (as.map dM))), some (.dat (.int opens)), some (.dat (.int len)), some (.dat (.int q)), some (.dat (dM b)), some (.dat (dR (meetM opens len q as))), none, none] = .ok (.val (.lst ((as.map fun a => greM [b.map (· + len), a]).map dM))) [some (.dat (.lst (as.map dM))), some (.dat (.int opens)), some (.dat (.int len)), some (.dat (.int q)), some (.dat (dM b)), some (.dat (dR (meetM opens len q as))), none, none] := by
    have e : (as.map fun a => greM [b.map (· + len), a]).map dM = (meetM opens len q as).map fun p => dM p.2 := by rw [eM, List.map_map, List.map_map]; rfl
    rw [e]
    refine ev_lc_map (f := dP) (l := meetM opens len q as) rfl (by rw [eM, List.length_map]; omega) rfl (by simp) fun p hp => ?_
    show (ev g__law_meeting_right (.ix (.v 7) (.c (.int 1))) [some (.dat (.lst (as.map dM))), some (.dat (.int opens)), some (.dat (.int len)), some (.dat (.int q)), some (.dat (dM b)), some (.dat (dR (meetM opens len q as))), none, some (.dat (dP p))]).take = .ok (dM p.2) [some (.dat (.lst (as.map dM))), some (.dat (.int opens)), some (.dat (.int len)), some (.dat (.int q)), some (.dat (dM b)), some (.dat (dR (meetM opens len q as))), none, some (.dat (dP p))]
    have h4 : ixD (dP p) (.int 1) = some (dM p.2) := rfl
    generalize dP p = P at h4 ⊢
    generalize dR (meetM opens len q as) = R1
    generalize as.map dM = X
    simp [evSs, evS, evs, evr, truR, startE, cellsF, cellF, evq_c, evq_v, evq_bin, evq_cmp, evq_chn, evq_and_, evq_or_, evq_not_, evq_neg, evq_ite, evq_tup, evq_lst, evq_ix, evq_blt, evq_isin, R.bind, R.take, R.toS, SR.seq, takeO, rdO, cellAt, content, truD, runF, outE, lift, h4]
  have hT : bltD .tuple [.lst (as.map dM)] = some (.tup (as.map dM)) := rfl
  have c1 := cmp_nself (data_dR (meetM opens len q as))
  have c2 : cmpD .ne (dM b) (dM b) = some false := cmp_nself (data_dM b)
  have c3 := cmp_self (data_dL (as.map fun a => greM [b.map (· + len), a]))
  have L2 := L2 (dR (meetM opens len q as))
  show semB g__law_meeting_right 8 none b__law_meeting_right [.lst (as.map dM), .int opens, .int len, .int q] = _
  clear q4 q5 bl q3 eM
  generalize D.lst ((as.map fun a => greM [b.map (· + len), a]).map dM) = Y at L2 L3 c3
  generalize dR (meetM opens len q as) = R1 at L1 L2 L3 c1 r1
  generalize hX : D.lst (as.map dM) = X at *
  generalize D.tup (as.map dM) = XT at *
  unfold semB b__law_meeting_right
  simp [evSs, evS, evs, evr, truR, startE, cellsF, cellF, evq_c, evq_v, evq_bin, evq_cmp, evq_chn, evq_and_, evq_or_, evq_not_, evq_neg, evq_ite, evq_tup, evq_lst, evq_ix, evq_blt, evq_isin, R.bind, R.take, R.toS, SR.seq, takeO, rdO, cellAt, content, truD, runF, outE, lift, cl__law_meeting_right_0, cl__law_meeting_right_1, cl__law_meeting_right_3, cl__law_meeting_right_4, q1, q2, L1, L2, L3, hT, r1, r2, c1, c2, c3, bindT, freeB_eq, hb]
end Mp
set_option maxHeartbeats 4000000
namespace Mp
open PySem L2
variable [TabsW] [GdW]
theorem gre_zero (a : Option Nat) : greM [a, some 0] = a := by
  refine eq_at fun y => ?_
  unfold greM
  rw [if_neg (by simp), nth_at _ _ _ (by simp), cnt_cons, cnt_cons]
  have h0 : atM (some 0) y := ⟨0, rfl, Nat.zero_le _⟩
  have : cnt [] y = 0 := rfl
  rw [this, if_pos h0]
  by_cases h : atM a y <;> simp [h]
section
variable (as : List (Option Nat)) (ns : List Nat) (cs : List (Option Nat)) (turn : Nat)
theorem room_get (p : Nat) (hp : p < as.length) : (roomM as ns cs turn)[p]? = some (rpair as ns cs turn (roomI as ns cs turn p) p) := by
  have h := roomI_take as ns cs turn (p + 1) as.length (by omega)
  have e : (roomM as ns cs turn)[p]? = ((roomI as ns cs turn as.length).take (p + 1))[p]? := by rw [List.getElem?_take_of_lt (by omega)]; rfl
  rw [e, h]
  show (roomI as ns cs turn p ++ [_])[p]? = _
  rw [List.getElem?_append_right (by rw [roomI_len]; omega), roomI_len, Nat.sub_self]; rfl
theorem room_last (p : Nat) (hp : p < as.length) : (roomI as ns cs turn (p + 1)).getLast? = (roomM as ns cs turn)[p]? := by
  rw [room_get as ns cs turn p hp]
  show (roomI as ns cs turn p ++ [_]).getLast? = _
  rw [List.getLast?_concat]
def rsnd (p : Nat) (b : Option Nat) (n : Nat) (c : Option Nat) : Option Nat := match c with
  | none => b.map (· + n)
  | some c => if p + 1 = as.length then b.map (· + n) else lesM (b.map (· + n)) ((greM [b, (as[p + 1]?).getD none]).map (· + c))
def bRT : List ST := [.asg (.tup [7, 8]) (.ix (.v 4) (.v 5)), .asg (.name 6) (.ite (.cmp .gt (.v 5) (.c (.int 0))) (.ix (.ix (.v 4) (.bin .sub (.v 5) (.c (.int 1)))) (.c (.int 1))) (.c (.int 0))), .if_ (.cmp .ne (.call 2 [.ix (.v 0) (.v 5), .v 6, .ite (.cmp .gt (.v 5) (.c (.int 0))) (.v 2) (.c (.int 0))]) (.v 7)) [.ret (.c (.bl false))] [], .if_ (.or_ (.cmp .is_ (.ix (.v 3) (.v 5)) (.c .non)) (.cmp .eq (.bin .add (.v 5) (.c (.int 1))) (.blt .len [.v 4]))) [.if_ (.cmp .ne (.call 3 [.v 7, .ix (.v 1) (.v 5)]) (.v 8)) [.ret (.c (.bl false))] []] [.if_ (.cmp .ne (.call 4 [.v 7, .ix (.v 1) (.v 5), .ix (.v 3) (.v 5), .ix (.v 0) (.bin .add (.v 5) (.c (.int 1)))]) (.v 8)) [.ret (.c (.bl false))] []]]
def envT (x5 x6 x7 x8 : Option Cell) : Env := [some (.dat (.lst (as.map dM))), some (.dat (.lst (dNs ns))), some (.dat (.int turn)), some (.dat (.lst (cs.map dM))), some (.dat (dR (roomM as ns cs turn))), x5, x6, x7, x8]
theorem rt_turn (hns : ns.length = as.length) (hcs : cs.length = as.length) (p : Nat) (hp : p < as.length) (x6 x7 x8 : Option Cell) (h6 : frC x6 = true) (h7 : frC x7 = true) (h8 : frC x8 = true) :
    ∃ y6 y7 y8, frC y6 = true ∧ frC y7 = true ∧ frC y8 = true ∧ evSs g__law_room_right bRT (envT as ns cs turn (some (.dat (.int p))) x6 x7 x8) = .nx (envT as ns cs turn (some (.dat (.int p))) y6 y7 y8) := by
  obtain ⟨a, ha⟩ : ∃ a, as[p]? = some a := ⟨_, List.getElem?_eq_getElem hp⟩
  obtain ⟨n, hn⟩ : ∃ n, ns[p]? = some n := ⟨_, List.getElem?_eq_getElem (by omega)⟩
  obtain ⟨c, hc⟩ : ∃ c, cs[p]? = some c := ⟨_, List.getElem?_eq_getElem (by omega)⟩
  have a0 : atI (as.map dM) (p : Int) = some (dM a) := at_map _ as p a ha
  have a1 : atI (dNs ns) (p : Int) = some (.int n) := at_map _ ns p n hn
  have a2 : atI (cs.map dM) (p : Int) = some (dM c) := at_map _ cs p c hc
  have hg := room_get as ns cs turn p hp
  have a4 : atI ((roomM as ns cs turn).map dP) (p : Int) = some (dP (rpair as ns cs turn (roomI as ns cs turn p) p)) := at_map _ _ p _ hg
  have hlen : ((roomM as ns cs turn).map dP).length = as.length := by rw [List.length_map, room_len]
  have eb : (rpair as ns cs turn (roomI as ns cs turn p) p).1 = rbeg turn (roomI as ns cs turn p) a := by
    unfold rpair rbeg
    rw [ha]; rfl
  -- what stands ahead
  obtain ⟨ah, tu, hT2, hT3, hgt⟩ : ∃ (ah : Option Nat) (tu : Nat), (∀ x7 x8, evS g__law_room_right (.asg (.name 6) (.ite (.cmp .gt (.v 5) (.c (.int 0))) (.ix (.ix (.v 4) (.bin .sub (.v 5) (.c (.int 1)))) (.c (.int 1))) (.c (.int 0)))) (envT as ns cs turn (some (.dat (.int p))) x6 x7 x8) = .nx (envT as ns cs turn (some (.dat (.int p))) (some (.dat (dM ah))) x7 x8)) ∧ greM [a, ah.map (· + tu)] = rbeg turn (roomI as ns cs turn p) a ∧ (∀ x6 x7 x8, ev g__law_room_right (.ite (.cmp .gt (.v 5) (.c (.int 0))) (.v 2) (.c (.int 0))) (envT as ns cs turn (some (.dat (.int p))) x6 x7 x8) = .ok (.val (.int tu)) (envT as ns cs turn (some (.dat (.int p))) x6 x7 x8)) := by
    cases p with
    | zero =>
      have hz : cmpD .gt (.int 0) (.int 0) = some false := rfl
      refine ⟨some 0, 0, fun x7 x8 => ?_, gre_zero a, fun x6 x7 x8 => ?_⟩
      · unfold envT
        generalize dR (roomM as ns cs turn) = R1
        simp [evSs, evS, evs, evr, truR, startE, cellsF, cellF, evq_c, evq_v, evq_bin, evq_cmp, evq_chn, evq_and_, evq_or_, evq_not_, evq_neg, evq_ite, evq_tup, evq_lst, evq_ix, evq_blt, evq_isin, R.bind, R.take, R.toS, SR.seq, takeO, rdO, cellAt, content, truD, runF, outE, lift, hz, bindT, freeB_eq, h6, dM]
      · unfold envT
        generalize dR (roomM as ns cs turn) = R1
        simp [evSs, evS, evs, evr, truR, startE, cellsF, cellF, evq_c, evq_v, evq_bin, evq_cmp, evq_chn, evq_and_, evq_or_, evq_not_, evq_neg, evq_ite, evq_tup, evq_lst, evq_ix, evq_blt, evq_isin, R.bind, R.take, R.toS, SR.seq, takeO, rdO, cellAt, content, truD, runF, outE, lift, hz]
    | succ k =>
      have hz : cmpD .gt (.int ((k + 1 : Nat) : Int)) (.int 0) = some true := by show some (decide _) = _; rw [decide_eq_true (by omega)]
      have hs : subD (.int ((k + 1 : Nat) : Int)) (.int 1) = some (.int (k : Int)) := by show some (D.int _) = _; congr 2; omega
      have hk := room_get as ns cs turn k (by omega)
      have hl := room_last as ns cs turn k (by omega)
      rw [hk] at hl
      have a5 : atI ((roomM as ns cs turn).map dP) (k : Int) = some (dP (rpair as ns cs turn (roomI as ns cs turn k) k)) := at_map _ _ k _ hk
      have e : rbeg turn (roomI as ns cs turn (k + 1)) a = greM [a, (rpair as ns cs turn (roomI as ns cs turn k) k).2.map (· + turn)] := by unfold rbeg; rw [hl]
      rw [e]
      generalize rpair as ns cs turn (roomI as ns cs turn k) k = q at a5 ⊢
      have i1 : ixD (dP q) (.int 1) = some (dM q.2) := rfl
      have i2 : ixD (dR (roomM as ns cs turn)) (.int (k : Int)) = some (dP q) := a5
      refine ⟨q.2, turn, fun x7 x8 => ?_, rfl, fun x6 x7 x8 => ?_⟩
      · unfold envT
        generalize dR (roomM as ns cs turn) = R1 at *
        generalize dP q = Q at *
        generalize ((k + 1 : Nat) : Int) = kk at *
        simp [evSs, evS, evs, evr, truR, startE, cellsF, cellF, evq_c, evq_v, evq_bin, evq_cmp, evq_chn, evq_and_, evq_or_, evq_not_, evq_neg, evq_ite, evq_tup, evq_lst, evq_ix, evq_blt, evq_isin, R.bind, R.take, R.toS, SR.seq, takeO, rdO, cellAt, content, truD, runF, outE, lift, hz, bindT, freeB_eq, h6, binD, hs, i1, i2]
      · unfold envT
        generalize dR (roomM as ns cs turn) = R1
        generalize ((k + 1 : Nat) : Int) = kk at *
        simp [evSs, evS, evs, evr, truR, startE, cellsF, cellF, evq_c, evq_v, evq_bin, evq_cmp, evq_chn, evq_and_, evq_or_, evq_not_, evq_neg, evq_ite, evq_tup, evq_lst, evq_ix, evq_blt, evq_isin, R.bind, R.take, R.toS, SR.seq, takeO, rdO, cellAt, content, truD, runF, outE, lift, hz]
  rw [← hT3] at eb
  have q3 := s_room_begin a ah tu
  generalize hB : greM [a, ah.map (· + tu)] = b at q3 eb
  have i4 : ixD (dR (roomM as ns cs turn)) (.int (p : Int)) = some (dP (rpair as ns cs turn (roomI as ns cs turn p) p)) := a4
  have cn : ∀ m, cmpD .ne (dM m) (dM m) = some false := fun m => cmp_nself (data_dM m)
  have lenR : bltD .len [dR (roomM as ns cs turn)] = some (.int as.length) := by
    show some (D.int (((roomM as ns cs turn).map dP).length : Nat)) = _
    rw [hlen]
  have e2 : (rpair as ns cs turn (roomI as ns cs turn p) p).2 = rsnd as p b n c := by
    have : (rpair as ns cs turn (roomI as ns cs turn p) p).2 = rsnd as p (rpair as ns cs turn (roomI as ns cs turn p) p).1 ((ns[p]?).getD 0) ((cs[p]?).getD none) := by
      unfold rsnd; rfl
    rw [this, eb, hc, hn]; rfl
  generalize rpair as ns cs turn (roomI as ns cs turn p) p = pr at *
  obtain ⟨b', e'⟩ := pr
  dsimp only at eb e2
  subst eb
  have hd : dP (b', e') = .tup [dM b', dM e'] := rfl
  rw [hd] at i4
  refine ⟨some (.dat (dM ah)), some (.dat (dM b')), some (.dat (dM e')), rfl, rfl, rfl, ?_⟩
  have T1 : evS g__law_room_right (.asg (.tup [7, 8]) (.ix (.v 4) (.v 5))) (envT as ns cs turn (some (.dat (.int p))) x6 x7 x8) = .nx (envT as ns cs turn (some (.dat (.int p))) x6 (some (.dat (dM b'))) (some (.dat (dM e')))) := by
    unfold envT
    generalize dR (roomM as ns cs turn) = R1 at *
    simp [evSs, evS, evs, evr, truR, startE, cellsF, cellF, evq_c, evq_v, evq_bin, evq_cmp, evq_chn, evq_and_, evq_or_, evq_not_, evq_neg, evq_ite, evq_tup, evq_lst, evq_ix, evq_blt, evq_isin, R.bind, R.take, R.toS, SR.seq, takeO, rdO, cellAt, content, truD, runF, outE, lift, i4, bindT, freeB_eq, h7, h8]
  have T2 := hT2 (some (.dat (dM b'))) (some (.dat (dM e')))
  have j0 : ixD (.lst (as.map dM)) (.int (p : Int)) = some (dM a) := a0
  have j1 : ixD (.lst (dNs ns)) (.int (p : Int)) = some (.int n) := a1
  have j2 : ixD (.lst (cs.map dM)) (.int (p : Int)) = some (dM c) := a2
  have T3 : evS g__law_room_right (.if_ (.cmp .ne (.call 2 [.ix (.v 0) (.v 5), .v 6, .ite (.cmp .gt (.v 5) (.c (.int 0))) (.v 2) (.c (.int 0))]) (.v 7)) [.ret (.c (.bl false))] []) (envT as ns cs turn (some (.dat (.int p))) (some (.dat (dM ah))) (some (.dat (dM b'))) (some (.dat (dM e')))) = .nx (envT as ns cs turn (some (.dat (.int p))) (some (.dat (dM ah))) (some (.dat (dM b'))) (some (.dat (dM e')))) := by
    have G := hgt (some (.dat (dM ah))) (some (.dat (dM b'))) (some (.dat (dM e')))
    have c1 := cn b'
    generalize IR.ite (.cmp .gt (.v 5) (.c (.int 0))) (.v 2) (.c (.int 0)) = I at *
    unfold envT at G ⊢
    clear hT2 hgt lenR cn
    generalize dR (roomM as ns cs turn) = R1 at *
    generalize D.lst (as.map dM) = X at *
    simp [evSs, evS, evs, evr, truR, startE, cellsF, cellF, evq_c, evq_v, evq_bin, evq_cmp, evq_chn, evq_and_, evq_or_, evq_not_, evq_neg, evq_ite, evq_tup, evq_lst, evq_ix, evq_blt, evq_isin, R.bind, R.take, R.toS, SR.seq, takeO, rdO, cellAt, content, truD, runF, outE, lift, cl__law_room_right_2, j0, G, q3, c1]
  have T4 : evS g__law_room_right (.if_ (.or_ (.cmp .is_ (.ix (.v 3) (.v 5)) (.c .non)) (.cmp .eq (.bin .add (.v 5) (.c (.int 1))) (.blt .len [.v 4]))) [.if_ (.cmp .ne (.call 3 [.v 7, .ix (.v 1) (.v 5)]) (.v 8)) [.ret (.c (.bl false))] []] [.if_ (.cmp .ne (.call 4 [.v 7, .ix (.v 1) (.v 5), .ix (.v 3) (.v 5), .ix (.v 0) (.bin .add (.v 5) (.c (.int 1)))]) (.v 8)) [.ret (.c (.bl false))] []]) (envT as ns cs turn (some (.dat (.int p))) (some (.dat (dM ah))) (some (.dat (dM b'))) (some (.dat (dM e')))) = .nx (envT as ns cs turn (some (.dat (.int p))) (some (.dat (dM ah))) (some (.dat (dM b'))) (some (.dat (dM e')))) := by
    have c2 := cn e'
    have q4 := s_room_end b' n
    have ad : addD (.int (p : Int)) (.int 1) = some (.int ((p + 1 : Nat) : Int)) := by show some (D.int _) = _; congr 2
    clear hT2 hgt cn a0 a1 a2 a4 hg hT3 hB
    cases c with
    | none =>
      rw [show e' = b'.map (· + n) from e2] at c2 ⊢
      have hi : cmpD .is_ .non .non = some true := rfl
      have j2 : ixD (.lst (cs.map dM)) (.int (p : Int)) = some .non := j2
      clear e2
      generalize b'.map (· + n) = z at *
      unfold envT
      generalize dR (roomM as ns cs turn) = R1 at *
      generalize D.lst (as.map dM) = X at *
      generalize D.lst (cs.map dM) = Y at *
      generalize D.lst (dNs ns) = Z at *
      simp [evSs, evS, evs, evr, truR, startE, cellsF, cellF, evq_c, evq_v, evq_bin, evq_cmp, evq_chn, evq_and_, evq_or_, evq_not_, evq_neg, evq_ite, evq_tup, evq_lst, evq_ix, evq_blt, evq_isin, R.bind, R.take, R.toS, SR.seq, takeO, rdO, cellAt, content, truD, runF, outE, lift, j2, hi, cl__law_room_right_3, j1, q4, c2]
    | some c =>
      have hi : cmpD .is_ (.int (c : Int)) .non = some false := rfl
      have j2 : ixD (.lst (cs.map dM)) (.int (p : Int)) = some (.int c) := j2
      unfold rsnd at e2
      dsimp only at e2
      by_cases hz : p + 1 = as.length
      · rw [if_pos hz] at e2
        rw [e2] at c2 ⊢
        have hq : cmpD .eq (.int ((p + 1 : Nat) : Int)) (.int as.length) = some true := by rw [hz]; exact cmp_self dataD_int
        clear e2
        generalize b'.map (· + n) = z at *
        unfold envT
        generalize dR (roomM as ns cs turn) = R1 at *
        generalize D.lst (as.map dM) = X at *
        generalize D.lst (cs.map dM) = Y at *
        generalize D.lst (dNs ns) = Z at *
        generalize ((p + 1 : Nat) : Int) = pp at *
        simp [evSs, evS, evs, evr, truR, startE, cellsF, cellF, evq_c, evq_v, evq_bin, evq_cmp, evq_chn, evq_and_, evq_or_, evq_not_, evq_neg, evq_ite, evq_tup, evq_lst, evq_ix, evq_blt, evq_isin, R.bind, R.take, R.toS, SR.seq, takeO, rdO, cellAt, content, truD, runF, outE, lift, j2, hi, binD, ad, lenR, hq, cl__law_room_right_3, j1, q4, c2]
      · rw [if_neg hz] at e2
        obtain ⟨a', ha'⟩ : ∃ a', as[p + 1]? = some a' := ⟨_, List.getElem?_eq_getElem (by omega)⟩
        have j3 : ixD (.lst (as.map dM)) (.int ((p + 1 : Nat) : Int)) = some (dM a') := at_map _ as (p + 1) a' ha'
        have q5 := s_guest_end b' n c a'
        rw [ha'] at e2
        rw [show e' = lesM (b'.map (· + n)) ((greM [b', a']).map (· + c)) from e2] at c2 ⊢
        have hq : cmpD .eq (.int ((p + 1 : Nat) : Int)) (.int as.length) = some false := by
          have : ¬ (((p + 1 : Nat) : Int) = (as.length : Int)) := by omega
          exact cmp_int_ne this
        clear e2
        generalize lesM (b'.map (· + n)) ((greM [b', a']).map (· + c)) = z at *
        unfold envT
        generalize dR (roomM as ns cs turn) = R1 at *
        generalize D.lst (as.map dM) = X at *
        generalize D.lst (cs.map dM) = Y at *
        generalize D.lst (dNs ns) = Z at *
        generalize ((p + 1 : Nat) : Int) = pp at *
        simp [evSs, evS, evs, evr, truR, startE, cellsF, cellF, evq_c, evq_v, evq_bin, evq_cmp, evq_chn, evq_and_, evq_or_, evq_not_, evq_neg, evq_ite, evq_tup, evq_lst, evq_ix, evq_blt, evq_isin, R.bind, R.take, R.toS, SR.seq, takeO, rdO, cellAt, content, truD, runF, outE, lift, j2, hi, binD, ad, lenR, hq, cl__law_room_right_4, j1, j3, q5, c2]
  unfold bRT
  rw [evSs, T1, seq_nx, evSs, T2, seq_nx, evSs, T3, seq_nx, evSs, T4, seq_nx, evSs]
theorem rt_loop (hns : ns.length = as.length) (hcs : cs.length = as.length) : ∀ (l : List Nat) (x5 x6 x7 x8 : Option Cell), (∀ p, p ∈ l → p < as.length) → frC x5 = true → frC x6 = true → frC x7 = true → frC x8 = true →
    ∃ y5 y6 y7 y8, forL (.name 5) (fun e => evSs g__law_room_right bRT e) (l.map fun k : Nat => D.int (k : Int)) (envT as ns cs turn x5 x6 x7 x8) = .nx (envT as ns cs turn y5 y6 y7 y8)
  | [], x5, x6, x7, x8, _, _, _, _, _ => ⟨x5, x6, x7, x8, rfl⟩
  | p :: l, x5, x6, x7, x8, h, h5, h6, h7, h8 => by
    obtain ⟨z6, z7, z8, g6, g7, g8, ht⟩ := rt_turn as ns cs turn hns hcs p (h p List.mem_cons_self) x6 x7 x8 h6 h7 h8
    obtain ⟨y5, y6, y7, y8, e⟩ := rt_loop hns hcs l (some (.dat (.int p))) z6 z7 z8 (fun j hj => h j (List.mem_cons_of_mem _ hj)) rfl g6 g7 g8
    refine ⟨y5, y6, y7, y8, ?_⟩
    have hb : bindT (.name 5) (.int p) (envT as ns cs turn x5 x6 x7 x8) = some (envT as ns cs turn (some (.dat (.int p))) x6 x7 x8) := by
      unfold bindT envT
      simp [freeB_eq, h5]
    rw [List.map_cons, forL, hb]
    dsimp only
    rw [ht]
    exact e
theorem s_room_right (hns : ns.length = as.length) (hcs : cs.length = as.length) (hl : as.length ≤ 6) (A : Nat) (hA : Sm A as) (hN : ∀ n, n ∈ ns → n ≤ A) (hC : Sm A cs) (ht : turn ≤ A) (hA9 : A ≤ 1000000) :
    f__law_room_right.sem [.lst (as.map dM), .lst (dNs ns), .int turn, .lst (cs.map dM)] = .ok (.bl true) [] := by
  have hBig : BIG = 100000 := rfl
  have r1 := s_lroom as ns cs turn hns hcs hl A hA hN hC ht hA9
  have r2 := s_room_rowT as ns cs turn hns hcs (by omega)
  have hT : bltD .tuple [.lst (cs.map dM)] = some (.tup (cs.map dM)) := rfl
  have c1 := cmp_nself (data_dR (roomM as ns cs turn))
  have lenR : bltD .len [dR (roomM as ns cs turn)] = some (.int as.length) := by
    show some (D.int (((roomM as ns cs turn).map dP).length : Nat)) = _
    rw [List.length_map, room_len]
  obtain ⟨y5, y6, y7, y8, hf⟩ := rt_loop as ns cs turn hns hcs (List.range' 0 as.length) none none none none (fun p hp => by have := List.mem_range'_1.mp hp; omega) rfl rfl rfl rfl
  rw [← iota_map'] at hf
  have E : evi g__law_room_right (.rng1 (.blt .len [.v 4])) (envT as ns cs turn none none none none) = .ok (iotaD 0 as.length) (envT as ns cs turn none none none none) := by
    have h1 : -1000000 ≤ (as.length : Int) := by omega
    have h2 : (as.length : Int) ≤ 1000000 := by omega
    rw [evi]
    unfold envT
    generalize dR (roomM as ns cs turn) = R1 at *
    simp [evSs, evS, evs, evr, truR, startE, cellsF, cellF, evq_c, evq_v, evq_bin, evq_cmp, evq_chn, evq_and_, evq_or_, evq_not_, evq_neg, evq_ite, evq_tup, evq_lst, evq_ix, evq_blt, evq_isin, R.bind, R.take, R.toS, SR.seq, takeO, rdO, cellAt, content, truD, runF, outE, lift, lenR, R.rd, h1, h2]
  have e0 : b__law_room_right = [.asg (.name 4) (.call 0 [.v 0, .v 1, .v 2, .v 3]), .if_ (.cmp .ne (.call 1 [.v 0, .v 1, .v 2, .blt .tuple [.v 3]]) (.v 4)) [.ret (.c (.bl false))] [], .for_ (.name 5) (.rng1 (.blt .len [.v 4])) bRT, .ret (.c (.bl true))] := rfl
  show semB g__law_room_right 9 none b__law_room_right [.lst (as.map dM), .lst (dNs ns), .int turn, .lst (cs.map dM)] = _
  unfold semB
  rw [e0]
  generalize bRT = body at *
  generalize iotaD 0 as.length = io at *
  unfold envT at E hf
  generalize dR (roomM as ns cs turn) = R1 at *
  generalize D.lst (as.map dM) = X at *
  generalize D.tup (cs.map dM) = YT at *
  generalize D.lst (cs.map dM) = Y at *
  generalize D.lst (dNs ns) = Z at *
  simp [evSs, evS, evs, evr, truR, startE, cellsF, cellF, evq_c, evq_v, evq_bin, evq_cmp, evq_chn, evq_and_, evq_or_, evq_not_, evq_neg, evq_ite, evq_tup, evq_lst, evq_ix, evq_blt, evq_isin, R.bind, R.take, R.toS, SR.seq, takeO, rdO, cellAt, content, truD, runF, outE, lift, cl__law_room_right_0, cl__law_room_right_1, r1, r2, hT, c1, bindT, freeB_eq, E, hf]
end
end Mp
set_option maxHeartbeats 4000000
namespace Mp
open PySem L2
variable [TabsW] [GdW]
/-- a state of the draws -/
def SrcS (u : List D) : Prop := ∃ a b, u = src a b
theorem s_moment' (a b : Int) (t : Nat) (h0 : 0 < t) (h1 : t < 1073741824) : ∃ (m : Option Nat) (a' b' : Int), (∀ x, m = some x → x < t) ∧ f__law_moment.sem [.lst (src a b), .int t] = .ok (dM m) (src a' b') := by
  obtain ⟨d, a1, b1, hd, h⟩ := s_take a b 9 (by decide) (by decide)
  have C := io_call (G := g__law_moment) (j := 0) (i := 0) (f := f__law_take) (es := [.c (.int 9)]) (env := [some (.io (src a b)), some (.dat (.int t))]) rfl rfl rfl rfl rfl rfl h
  by_cases hz : d = 0
  · subst hz
    refine ⟨none, a1, b1, (fun x z => nomatch z), ?_⟩
    show semB g__law_moment 2 (some 0) b__law_moment [.lst (src a b), .int t] = _
    unfold semB b__law_moment
    have hc : cmpD .eq (.int 0) (.int 0) = some true := rfl
    generalize src a b = s at C ⊢
    simp [evSs, evS, evs, evr, truR, startE, cellsF, cellF, evq_c, evq_v, evq_bin, evq_cmp, evq_chn, evq_and_, evq_or_, evq_not_, evq_neg, evq_ite, evq_tup, evq_lst, evq_ix, evq_blt, evq_isin, R.bind, R.take, R.toS, SR.seq, takeO, rdO, cellAt, content, truD, runF, outE, lift, C, hc, dM]
  · obtain ⟨e, a2, b2, he, h2⟩ := s_take a1 b1 t h0 h1
    have C2 := io_call (G := g__law_moment) (j := 0) (i := 0) (f := f__law_take) (es := [.v 1]) (env := [some (.io (src a1 b1)), some (.dat (.int t))]) rfl rfl rfl rfl rfl rfl h2
    refine ⟨some e, a2, b2, (fun x z => by cases z; exact he), ?_⟩
    show semB g__law_moment 2 (some 0) b__law_moment [.lst (src a b), .int t] = _
    unfold semB b__law_moment
    have hc : cmpD .eq (.int (d : Int)) (.int 0) = some false := by simp [cmpD, dataD, eqD, hz]
    generalize src a b = s at C ⊢
    generalize src a1 b1 = s1 at C C2 ⊢
    simp [evSs, evS, evs, evr, truR, startE, cellsF, cellF, evq_c, evq_v, evq_bin, evq_cmp, evq_chn, evq_and_, evq_or_, evq_not_, evq_neg, evq_ite, evq_tup, evq_lst, evq_ix, evq_blt, evq_isin, R.bind, R.take, R.toS, SR.seq, takeO, rdO, cellAt, content, truD, runF, outE, lift, C, C2, hc, dM]
/-- one of some told numbers -/
theorem s_oneN (a b : Int) (ns : List Nat) (h0 : 0 < ns.length) (h1 : ns.length < 1073741824) : ∃ (n : Nat) (a' b' : Int), n ∈ ns ∧ f__law_one.sem [.lst (src a b), .lst (ns.map fun n : Nat => D.int n)] = .ok (.int n) (src a' b') := by
  obtain ⟨d, a', b', hd, h⟩ := s_one a b (ns.map fun n : Nat => D.int n) (by simpa using h0) (by simpa using h1)
  obtain ⟨n, hn, rfl⟩ := List.mem_map.mp hd
  exact ⟨n, a', b', hn, h⟩
def envL (X : D) (x1 : Option Cell) (s : List D) (x3 x4 x5 x6 x7 : Option Cell) : Env := [some (.dat X), x1, some (.own s), x3, x4, x5, x6, x7, none, none]
def bArr : IR := .lc (.name 8) (.rng1 (.bin .add (.c (.int 1)) (.call 1 [.v 2, .c (.int 6)]))) none (.call 2 [.v 2, .call 3 [.v 2, .lst [.c (.int 4), .c (.int 30)]]]) [8]
def bLen : IR := .lc (.name 9) (.seq (.v 3)) none (.call 3 [.v 2, .lst [.c (.int 0), .c (.int 1), .c (.int 4), .c (.int 30)]]) [9]
def bNot : IR := .lc (.name 9) (.seq (.v 3)) none (.call 3 [.v 2, .lst [.c .non, .c .non, .c (.int 0), .c (.int 1), .c (.int 5)]]) [9]
theorem arr_run (X : D) (x1 x3 x4 x5 x6 x7 : Option Cell) (a b : Int) : ∃ (as : List (Option Nat)) (a' b' : Int), 0 < as.length ∧ as.length ≤ 6 ∧ Sm 30 as ∧ ev g_law bArr (envL X x1 (src a b) x3 x4 x5 x6 x7) = .ok (.val (.lst (as.map dM))) (envL X x1 (src a' b') x3 x4 x5 x6 x7) := by
  obtain ⟨m, a1, b1, hm, c1⟩ := s_take a b 6 (by decide) (by decide)
  have k1 := own_call (G := g_law) (j := 1) (i := 2) (f := f__law_take) (es := [.c (.int 6)]) (env := envL X x1 (src a b) x3 x4 x5 x6 x7) rfl rfl rfl rfl rfl rfl c1
  have E : evi g_law (.rng1 (.bin .add (.c (.int 1)) (.call 1 [.v 2, .c (.int 6)]))) (envL X x1 (src a b) x3 x4 x5 x6 x7) = .ok (iotaD 0 (1 + m)) (envL X x1 (src a1 b1) x3 x4 x5 x6 x7) := by
    have : ev g_law (.bin .add (.c (.int 1)) (.call 1 [.v 2, .c (.int 6)])) (envL X x1 (src a b) x3 x4 x5 x6 x7) = .ok (.val (.int ((1 + m : Nat) : Int))) (envL X x1 (src a1 b1) x3 x4 x5 x6 x7) := by
      have ad : addD (.int 1) (.int (m : Int)) = some (.int ((1 + m : Nat) : Int)) := by show some (D.int _) = _; congr 2
      unfold envL at k1 ⊢
      generalize src a b = s at *
      generalize src a1 b1 = s1 at *
      generalize ((1 + m : Nat) : Int) = z at *
      simp [evSs, evS, evs, evr, truR, startE, cellsF, cellF, evq_c, evq_v, evq_bin, evq_cmp, evq_chn, evq_and_, evq_or_, evq_not_, evq_neg, evq_ite, evq_tup, evq_lst, evq_ix, evq_blt, evq_isin, R.bind, R.take, R.toS, SR.seq, takeO, rdO, cellAt, content, truD, runF, outE, lift, k1, binD, ad]
    rw [evi, this]
    show (if -1000000 ≤ ((1 + m : Nat) : Int) ∧ ((1 + m : Nat) : Int) ≤ 1000000 then R.ok (iotaD 0 ((1 + m : Nat) : Int).toNat) _ else .bad) = _
    rw [if_pos ⟨by omega, by omega⟩, Int.toNat_natCast]
  rw [show iotaD 0 (1 + m) = (List.range' 0 (1 + m)).map fun k : Nat => D.int (k : Int) from iota_map' 0 (1 + m)] at E
  obtain ⟨as, u, ⟨a', b', rfl⟩, hl, hs, h⟩ := ev_lc_draw (G := g_law) (i := 8) (s := 2) (e := .call 2 [.v 2, .call 3 [.v 2, .lst [.c (.int 4), .c (.int 30)]]]) (env := envL X x1 (src a b) x3 x4 x5 x6 x7) (env0 := envL X x1 [] x3 x4 x5 x6 x7) (l := List.range' 0 (1 + m)) (f := fun k : Nat => D.int (k : Int)) (h := dM) (Q := fun m => ∀ x, m = some x → x ≤ 30) (S := SrcS) (c := Cell.own) (u0 := src a1 b1) E ⟨a1, b1, rfl⟩ (by have hB : BIG = 100000 := rfl; rw [List.length_range']; omega) (by decide) rfl (fun k hk u hu => by
      obtain ⟨a, b, rfl⟩ := hu
      obtain ⟨w, a2, b2, hw, c2⟩ := s_oneN a b [4, 30] (by decide) (by decide)
      have hw2 : 0 < w ∧ w ≤ 30 := by
        simp at hw
        rcases hw with rfl | rfl <;> decide
      obtain ⟨c, a3, b3, hc, c3⟩ := s_moment' a2 b2 w hw2.1 (by omega)
      have C2 := own_call (G := g_law) (j := 3) (i := 2) (f := f__law_one) (es := [.lst [.c (.int 4), .c (.int 30)]]) (env := [some (.dat X), x1, some (.own (src a b)), x3, x4, x5, x6, x7, some (.dat (.int k)), none]) rfl rfl rfl rfl rfl rfl c2
      have A2 : evs g_law [.call 3 [.v 2, .lst [.c (.int 4), .c (.int 30)]]] [some (.dat X), x1, some (.own (src a b)), x3, x4, x5, x6, x7, some (.dat (.int k)), none] = .ok [.int w] [some (.dat X), x1, some (.own (src a2 b2)), x3, x4, x5, x6, x7, some (.dat (.int k)), none] := by
        rw [evs, C2]; rfl
      have C3 := own_call (G := g_law) (j := 2) (i := 2) (f := f__law_moment) (es := [.call 3 [.v 2, .lst [.c (.int 4), .c (.int 30)]]]) (env := [some (.dat X), x1, some (.own (src a b)), x3, x4, x5, x6, x7, some (.dat (.int k)), none]) rfl rfl rfl rfl A2 rfl c3
      refine ⟨c, src a3 b3, ⟨a3, b3, rfl⟩, fun x z => by have := hc x z; omega, ?_⟩
      show (ev g_law (.call 2 [.v 2, .call 3 [.v 2, .lst [.c (.int 4), .c (.int 30)]]]) [some (.dat X), x1, some (.own (src a b)), x3, x4, x5, x6, x7, some (.dat (.int k)), none]).take = _
      rw [C3]; rfl)
  rw [List.length_range'] at hl
  exact ⟨as, a', b', by omega, by omega, hs, h⟩
theorem len_run (X : D) (x1 x4 x5 x6 x7 : Option Cell) (a b : Int) (as : List (Option Nat)) (h9 : as.length ≤ 6) : ∃ (ns : List Nat) (a' b' : Int), ns.length = as.length ∧ (∀ n, n ∈ ns → n ≤ 30) ∧ ev g_law bLen (envL X x1 (src a b) (some (.dat (.lst (as.map dM)))) x4 x5 x6 x7) = .ok (.val (.lst (dNs ns))) (envL X x1 (src a' b') (some (.dat (.lst (as.map dM)))) x4 x5 x6 x7) := by
  obtain ⟨ns, u, ⟨a', b', rfl⟩, hl, hs, h⟩ := ev_lc_draw (G := g_law) (i := 9) (s := 2) (it := .seq (.v 3)) (e := .call 3 [.v 2, .lst [.c (.int 0), .c (.int 1), .c (.int 4), .c (.int 30)]]) (env := envL X x1 (src a b) (some (.dat (.lst (as.map dM)))) x4 x5 x6 x7) (env0 := envL X x1 [] (some (.dat (.lst (as.map dM)))) x4 x5 x6 x7) (l := as) (f := dM) (h := fun n : Nat => D.int (n : Int)) (Q := fun n => n ≤ 30) (S := SrcS) (c := Cell.own) (u0 := src a b) rfl ⟨a, b, rfl⟩ (by have hB : BIG = 100000 := rfl; omega) (by decide) rfl (fun m hm u hu => by
      obtain ⟨a, b, rfl⟩ := hu
      obtain ⟨w, a2, b2, hw, c2⟩ := s_oneN a b [0, 1, 4, 30] (by decide) (by decide)
      have hw2 : w ≤ 30 := by
        simp at hw
        rcases hw with rfl | rfl | rfl | rfl <;> decide
      have C2 := own_call (G := g_law) (j := 3) (i := 2) (f := f__law_one) (es := [.lst [.c (.int 0), .c (.int 1), .c (.int 4), .c (.int 30)]]) (env := [some (.dat X), x1, some (.own (src a b)), some (.dat (.lst (as.map dM))), x4, x5, x6, x7, none, some (.dat (dM m))]) rfl rfl rfl rfl rfl rfl c2
      refine ⟨w, src a2 b2, ⟨a2, b2, rfl⟩, hw2, ?_⟩
      show (ev g_law (.call 3 [.v 2, .lst [.c (.int 0), .c (.int 1), .c (.int 4), .c (.int 30)]]) [some (.dat X), x1, some (.own (src a b)), some (.dat (.lst (as.map dM))), x4, x5, x6, x7, none, some (.dat (dM m))]).take = _
      rw [C2]; rfl)
  exact ⟨ns, a', b', hl, hs, h⟩
theorem not_run (X : D) (x1 x4 x5 x6 x7 : Option Cell) (a b : Int) (as : List (Option Nat)) (h9 : as.length ≤ 6) : ∃ (cs : List (Option Nat)) (a' b' : Int), cs.length = as.length ∧ Sm 30 cs ∧ ev g_law bNot (envL X x1 (src a b) (some (.dat (.lst (as.map dM)))) x4 x5 x6 x7) = .ok (.val (.lst (cs.map dM))) (envL X x1 (src a' b') (some (.dat (.lst (as.map dM)))) x4 x5 x6 x7) := by
  obtain ⟨cs, u, ⟨a', b', rfl⟩, hl, hs, h⟩ := ev_lc_draw (G := g_law) (i := 9) (s := 2) (it := .seq (.v 3)) (e := .call 3 [.v 2, .lst [.c .non, .c .non, .c (.int 0), .c (.int 1), .c (.int 5)]]) (env := envL X x1 (src a b) (some (.dat (.lst (as.map dM)))) x4 x5 x6 x7) (env0 := envL X x1 [] (some (.dat (.lst (as.map dM)))) x4 x5 x6 x7) (l := as) (f := dM) (h := dM) (Q := fun m => ∀ x, m = some x → x ≤ 30) (S := SrcS) (c := Cell.own) (u0 := src a b) rfl ⟨a, b, rfl⟩ (by have hB : BIG = 100000 := rfl; omega) (by decide) rfl (fun m hm u hu => by
      obtain ⟨a, b, rfl⟩ := hu
      obtain ⟨w, a2, b2, hw, c2⟩ := s_one a b [.non, .non, .int 0, .int 1, .int 5] (by decide) (by decide)
      obtain ⟨c, rfl, hc⟩ : ∃ c, w = dM c ∧ ∀ x, c = some x → x ≤ 30 := by
        simp only [List.mem_cons, List.not_mem_nil, or_false] at hw
        rcases hw with rfl | rfl | rfl | rfl | rfl
        · exact ⟨none, rfl, fun x z => nomatch z⟩
        · exact ⟨none, rfl, fun x z => nomatch z⟩
        · exact ⟨some 0, rfl, fun x z => by cases z; decide⟩
        · exact ⟨some 1, rfl, fun x z => by cases z; decide⟩
        · exact ⟨some 5, rfl, fun x z => by cases z; decide⟩
      have C2 := own_call (G := g_law) (j := 3) (i := 2) (f := f__law_one) (es := [.lst [.c .non, .c .non, .c (.int 0), .c (.int 1), .c (.int 5)]]) (env := [some (.dat X), x1, some (.own (src a b)), some (.dat (.lst (as.map dM))), x4, x5, x6, x7, none, some (.dat (dM m))]) rfl rfl rfl rfl rfl rfl c2
      refine ⟨c, src a2 b2, ⟨a2, b2, rfl⟩, hc, ?_⟩
      show (ev g_law (.call 3 [.v 2, .lst [.c .non, .c .non, .c (.int 0), .c (.int 1), .c (.int 5)]]) [some (.dat X), x1, some (.own (src a b)), some (.dat (.lst (as.map dM))), x4, x5, x6, x7, none, some (.dat (dM m))]).take = _
      rw [C2]; rfl)
  exact ⟨cs, a', b', hl, hs, h⟩
def bLaw : List ST := [.new 2 (.call 0 [.v 0, .v 1]), .asg (.name 3) bArr, .par [6, 7] [.call 1 [.v 2, .c (.int 20)], .call 3 [.v 2, .lst [.c (.int 0), .c (.int 1), .c (.int 5), .c (.int 20)]]], .if_ (.not_ (.call 4 [.v 3, .v 6, .v 7, .bin .add (.c (.int 1)) (.call 1 [.v 2, .blt .len [.v 3]])])) [.ret (.c (.bl false))] [], .asg (.name 4) bLen, .asg (.name 5) bNot, .if_ (.not_ (.call 5 [.v 3, .v 4, .call 3 [.v 2, .lst [.c (.int 0), .c (.int 1), .c (.int 5)]], .v 5])) [.ret (.c (.bl false))] [], .if_ (.or_ (.not_ (.call 6 [.v 2])) (.not_ (.call 7 [.v 2]))) [.ret (.c (.bl false))] []]
theorem law_turn (ns : List Int) (k : Nat) (hk : k < 100) (x2 x3 x4 x5 x6 x7 : Option Cell) (h2 : frC x2 = true) (h3 : frC x3 = true) (h4 : frC x4 = true) (h5 : frC x5 = true) (h6 : frC x6 = true) (h7 : frC x7 = true) : ∃ y2 y3 y4 y5 y6 y7, frC y2 = true ∧ frC y3 = true ∧ frC y4 = true ∧ frC y5 = true ∧ frC y6 = true ∧ frC y7 = true ∧
    evSs g_law bLaw [some (.dat (.lst (ns.map .int))), some (.dat (.int k)), x2, x3, x4, x5, x6, x7, none, none] = .nx [some (.dat (.lst (ns.map .int))), some (.dat (.int k)), y2, y3, y4, y5, y6, y7, none, none] := by
  obtain ⟨a, b, c0⟩ := s_pool ns k hk
  obtain ⟨X, hX⟩ : ∃ X, D.lst (ns.map D.int) = X := ⟨_, rfl⟩
  rw [hX] at c0 ⊢
  clear hX
  obtain ⟨K, hK⟩ : ∃ K, some (Cell.dat (.int (k : Int))) = K := ⟨_, rfl⟩
  have T1 : evS g_law (.new 2 (.call 0 [.v 0, .v 1])) [some (.dat X), some (.dat (.int k)), x2, x3, x4, x5, x6, x7, none, none] = .nx (envL X (some (.dat (.int k))) (src a b) x3 x4 x5 x6 x7) := by
    have hb : (src a b).length ≤ BIG := by show 2 ≤ BIG; decide
    have hf : g_law.frs[0]? = some f__law_pool := rfl
    have hn : f__law_pool.n = 2 := rfl
    unfold envL
    generalize src a b = s at *
    simp [evSs, evS, evs, evr, truR, startE, cellsF, cellF, evq_c, evq_v, evq_bin, evq_cmp, evq_chn, evq_and_, evq_or_, evq_not_, evq_neg, evq_ite, evq_tup, evq_lst, evq_ix, evq_blt, evq_isin, R.bind, R.take, R.toS, SR.seq, takeO, rdO, cellAt, content, truD, runF, outE, lift, evL, hf, hn, c0, hb, freeB_eq, h2]
  rw [hK] at T1 ⊢
  obtain ⟨as, a1, b1, h0, h9, hA, R1⟩ := arr_run X K x3 x4 x5 x6 x7 a b
  have T2 : evS g_law (.asg (.name 3) bArr) (envL X K (src a b) x3 x4 x5 x6 x7) = .nx (envL X K (src a1 b1) (some (.dat (.lst (as.map dM)))) x4 x5 x6 x7) := by
    unfold envL at R1 ⊢
    generalize src a b = s at *
    generalize src a1 b1 = s1 at *
    generalize bArr = q at *
    simp [evSs, evS, evs, evr, truR, startE, cellsF, cellF, evq_c, evq_v, evq_bin, evq_cmp, evq_chn, evq_and_, evq_or_, evq_not_, evq_neg, evq_ite, evq_tup, evq_lst, evq_ix, evq_blt, evq_isin, R.bind, R.take, R.toS, SR.seq, takeO, rdO, cellAt, content, truD, runF, outE, lift, R1, bindT, freeB_eq, h3]
  obtain ⟨op, a2, b2, hop, c2⟩ := s_take a1 b1 20 (by decide) (by decide)
  obtain ⟨le, a3, b3, hle, c3⟩ := s_oneN a2 b2 [0, 1, 5, 20] (by decide) (by decide)
  have hle2 : le ≤ 30 := by
    simp at hle
    rcases hle with rfl | rfl | rfl | rfl <;> decide
  have k2 := own_call (G := g_law) (j := 1) (i := 2) (f := f__law_take) (es := [.c (.int 20)]) (env := envL X K (src a1 b1) (some (.dat (.lst (as.map dM)))) x4 x5 x6 x7) rfl rfl rfl rfl rfl rfl c2
  have k3 := own_call (G := g_law) (j := 3) (i := 2) (f := f__law_one) (es := [.lst [.c (.int 0), .c (.int 1), .c (.int 5), .c (.int 20)]]) (env := envL X K (src a2 b2) (some (.dat (.lst (as.map dM)))) x4 x5 x6 x7) rfl rfl rfl rfl rfl rfl c3
  have T3 : evS g_law (.par [6, 7] [.call 1 [.v 2, .c (.int 20)], .call 3 [.v 2, .lst [.c (.int 0), .c (.int 1), .c (.int 5), .c (.int 20)]]]) (envL X K (src a1 b1) (some (.dat (.lst (as.map dM)))) x4 x5 x6 x7) = .nx (envL X K (src a3 b3) (some (.dat (.lst (as.map dM)))) x4 x5 (some (.dat (.int op))) (some (.dat (.int le)))) := by
    unfold envL at k2 k3 ⊢
    generalize src a1 b1 = s1 at *
    generalize src a2 b2 = s2 at *
    generalize src a3 b3 = s3 at *
    generalize as.map dM = AA at *
    generalize IR.lst [.c (.int 0), .c (.int 1), .c (.int 5), .c (.int 20)] = LL at *
    simp [evSs, evS, evs, evr, truR, startE, cellsF, cellF, evq_c, evq_v, evq_bin, evq_cmp, evq_chn, evq_and_, evq_or_, evq_not_, evq_neg, evq_ite, evq_tup, evq_lst, evq_ix, evq_blt, evq_isin, R.bind, R.take, R.toS, SR.seq, takeO, rdO, cellAt, content, truD, runF, outE, lift, k2, k3, bindT, freeB_eq, h6, h7]
  obtain ⟨q, a4, b4, hq, c4⟩ := s_take a3 b3 as.length h0 (by omega)
  have hlen : bltD .len [.lst (as.map dM)] = some (.int as.length) := by show some (D.int ((as.map dM).length : Nat)) = _; simp
  have A4 : evs g_law [.blt .len [.v 3]] (envL X K (src a3 b3) (some (.dat (.lst (as.map dM)))) x4 x5 (some (.dat (.int op))) (some (.dat (.int le)))) = .ok [.int as.length] (envL X K (src a3 b3) (some (.dat (.lst (as.map dM)))) x4 x5 (some (.dat (.int op))) (some (.dat (.int le)))) := by
    unfold envL
    generalize src a3 b3 = s3 at *
    generalize as.map dM = AA at *
    simp [evSs, evS, evs, evr, truR, startE, cellsF, cellF, evq_c, evq_v, evq_bin, evq_cmp, evq_chn, evq_and_, evq_or_, evq_not_, evq_neg, evq_ite, evq_tup, evq_lst, evq_ix, evq_blt, evq_isin, R.bind, R.take, R.toS, SR.seq, takeO, rdO, cellAt, content, truD, runF, outE, lift, hlen]
  have k4 := own_call (G := g_law) (j := 1) (i := 2) (f := f__law_take) (es := [.blt .len [.v 3]]) (env := envL X K (src a3 b3) (some (.dat (.lst (as.map dM)))) x4 x5 (some (.dat (.int op))) (some (.dat (.int le)))) rfl rfl rfl rfl A4 rfl c4
  have m4 := s_meeting_right as op le (1 + q) 30 (by omega) (by omega) h9 hA (by omega) hle2 (by decide)
  have ad : addD (.int 1) (.int (q : Int)) = some (.int ((1 + q : Nat) : Int)) := by show some (D.int _) = _; congr 2
  have T4 : evS g_law (.if_ (.not_ (.call 4 [.v 3, .v 6, .v 7, .bin .add (.c (.int 1)) (.call 1 [.v 2, .blt .len [.v 3]])])) [.ret (.c (.bl false))] []) (envL X K (src a3 b3) (some (.dat (.lst (as.map dM)))) x4 x5 (some (.dat (.int op))) (some (.dat (.int le)))) = .nx (envL X K (src a4 b4) (some (.dat (.lst (as.map dM)))) x4 x5 (some (.dat (.int op))) (some (.dat (.int le)))) := by
    unfold envL at k4 ⊢
    generalize src a3 b3 = s3 at *
    generalize src a4 b4 = s4 at *
    generalize as.map dM = AA at *
    generalize ((1 + q : Nat) : Int) = z at *
    generalize IR.blt .len [.v 3] = LL at *
    simp [evSs, evS, evs, evr, truR, startE, cellsF, cellF, evq_c, evq_v, evq_bin, evq_cmp, evq_chn, evq_and_, evq_or_, evq_not_, evq_neg, evq_ite, evq_tup, evq_lst, evq_ix, evq_blt, evq_isin, R.bind, R.take, R.toS, SR.seq, takeO, rdO, cellAt, content, truD, runF, outE, lift, cl_law_4, k4, binD, ad, m4]
  obtain ⟨ls, a5, b5, hls, hN, R5⟩ := len_run X K x4 x5 (some (.dat (.int op))) (some (.dat (.int le))) a4 b4 as h9
  have T5 : evS g_law (.asg (.name 4) bLen) (envL X K (src a4 b4) (some (.dat (.lst (as.map dM)))) x4 x5 (some (.dat (.int op))) (some (.dat (.int le)))) = .nx (envL X K (src a5 b5) (some (.dat (.lst (as.map dM)))) (some (.dat (.lst (dNs ls)))) x5 (some (.dat (.int op))) (some (.dat (.int le)))) := by
    unfold envL at R5 ⊢
    generalize src a4 b4 = s at *
    generalize src a5 b5 = s1 at *
    generalize bLen = q at *
    generalize as.map dM = AA at *
    simp [evSs, evS, evs, evr, truR, startE, cellsF, cellF, evq_c, evq_v, evq_bin, evq_cmp, evq_chn, evq_and_, evq_or_, evq_not_, evq_neg, evq_ite, evq_tup, evq_lst, evq_ix, evq_blt, evq_isin, R.bind, R.take, R.toS, SR.seq, takeO, rdO, cellAt, content, truD, runF, outE, lift, R5, bindT, freeB_eq, h4]
  obtain ⟨cs, a6, b6, hcs, hC, R6⟩ := not_run X K (some (.dat (.lst (dNs ls)))) x5 (some (.dat (.int op))) (some (.dat (.int le))) a5 b5 as h9
  have T6 : evS g_law (.asg (.name 5) bNot) (envL X K (src a5 b5) (some (.dat (.lst (as.map dM)))) (some (.dat (.lst (dNs ls)))) x5 (some (.dat (.int op))) (some (.dat (.int le)))) = .nx (envL X K (src a6 b6) (some (.dat (.lst (as.map dM)))) (some (.dat (.lst (dNs ls)))) (some (.dat (.lst (cs.map dM)))) (some (.dat (.int op))) (some (.dat (.int le)))) := by
    unfold envL at R6 ⊢
    generalize src a5 b5 = s at *
    generalize src a6 b6 = s1 at *
    generalize bNot = q at *
    generalize as.map dM = AA at *
    generalize cs.map dM = CC at *
    simp [evSs, evS, evs, evr, truR, startE, cellsF, cellF, evq_c, evq_v, evq_bin, evq_cmp, evq_chn, evq_and_, evq_or_, evq_not_, evq_neg, evq_ite, evq_tup, evq_lst, evq_ix, evq_blt, evq_isin, R.bind, R.take, R.toS, SR.seq, takeO, rdO, cellAt, content, truD, runF, outE, lift, R6, bindT, freeB_eq, h5]
  obtain ⟨tu, a7, b7, htu, c7⟩ := s_oneN a6 b6 [0, 1, 5] (by decide) (by decide)
  have htu2 : tu ≤ 30 := by
    simp at htu
    rcases htu with rfl | rfl | rfl <;> decide
  have k7 := own_call (G := g_law) (j := 3) (i := 2) (f := f__law_one) (es := [.lst [.c (.int 0), .c (.int 1), .c (.int 5)]]) (env := envL X K (src a6 b6) (some (.dat (.lst (as.map dM)))) (some (.dat (.lst (dNs ls)))) (some (.dat (.lst (cs.map dM)))) (some (.dat (.int op))) (some (.dat (.int le)))) rfl rfl rfl rfl rfl rfl c7
  have m7 := s_room_right as ls cs tu hls hcs h9 30 hA hN hC htu2 (by decide)
  have T7 : evS g_law (.if_ (.not_ (.call 5 [.v 3, .v 4, .call 3 [.v 2, .lst [.c (.int 0), .c (.int 1), .c (.int 5)]], .v 5])) [.ret (.c (.bl false))] []) (envL X K (src a6 b6) (some (.dat (.lst (as.map dM)))) (some (.dat (.lst (dNs ls)))) (some (.dat (.lst (cs.map dM)))) (some (.dat (.int op))) (some (.dat (.int le)))) = .nx (envL X K (src a7 b7) (some (.dat (.lst (as.map dM)))) (some (.dat (.lst (dNs ls)))) (some (.dat (.lst (cs.map dM)))) (some (.dat (.int op))) (some (.dat (.int le)))) := by
    unfold envL at k7 ⊢
    generalize src a6 b6 = s3 at *
    generalize src a7 b7 = s4 at *
    generalize as.map dM = AA at *
    generalize cs.map dM = CC at *
    generalize dNs ls = NN at *
    generalize IR.lst [.c (.int 0), .c (.int 1), .c (.int 5)] = LL at *
    simp [evSs, evS, evs, evr, truR, startE, cellsF, cellF, evq_c, evq_v, evq_bin, evq_cmp, evq_chn, evq_and_, evq_or_, evq_not_, evq_neg, evq_ite, evq_tup, evq_lst, evq_ix, evq_blt, evq_isin, R.bind, R.take, R.toS, SR.seq, takeO, rdO, cellAt, content, truD, runF, outE, lift, cl_law_5, k7, m7]
  obtain ⟨a8, b8, c8⟩ := s_meeting_refuses a7 b7
  obtain ⟨a9, b9, c9⟩ := s_room_refuses a8 b8
  have k8 := own_call (G := g_law) (j := 6) (i := 2) (f := f__law_meeting_refuses) (es := []) (env := envL X K (src a7 b7) (some (.dat (.lst (as.map dM)))) (some (.dat (.lst (dNs ls)))) (some (.dat (.lst (cs.map dM)))) (some (.dat (.int op))) (some (.dat (.int le)))) rfl rfl rfl rfl rfl rfl c8
  have k9 := own_call (G := g_law) (j := 7) (i := 2) (f := f__law_room_refuses) (es := []) (env := envL X K (src a8 b8) (some (.dat (.lst (as.map dM)))) (some (.dat (.lst (dNs ls)))) (some (.dat (.lst (cs.map dM)))) (some (.dat (.int op))) (some (.dat (.int le)))) rfl rfl rfl rfl rfl rfl c9
  have T8 : evS g_law (.if_ (.or_ (.not_ (.call 6 [.v 2])) (.not_ (.call 7 [.v 2]))) [.ret (.c (.bl false))] []) (envL X K (src a7 b7) (some (.dat (.lst (as.map dM)))) (some (.dat (.lst (dNs ls)))) (some (.dat (.lst (cs.map dM)))) (some (.dat (.int op))) (some (.dat (.int le)))) = .nx (envL X K (src a9 b9) (some (.dat (.lst (as.map dM)))) (some (.dat (.lst (dNs ls)))) (some (.dat (.lst (cs.map dM)))) (some (.dat (.int op))) (some (.dat (.int le)))) := by
    unfold envL at k8 k9 ⊢
    generalize src a7 b7 = s3 at *
    generalize src a8 b8 = s4 at *
    generalize src a9 b9 = s5 at *
    generalize as.map dM = AA at *
    generalize cs.map dM = CC at *
    generalize dNs ls = NN at *
    simp [evSs, evS, evs, evr, truR, startE, cellsF, cellF, evq_c, evq_v, evq_bin, evq_cmp, evq_chn, evq_and_, evq_or_, evq_not_, evq_neg, evq_ite, evq_tup, evq_lst, evq_ix, evq_blt, evq_isin, R.bind, R.take, R.toS, SR.seq, takeO, rdO, cellAt, content, truD, runF, outE, lift, k8, k9]
  refine ⟨some (.own (src a9 b9)), some (.dat (.lst (as.map dM))), some (.dat (.lst (dNs ls))), some (.dat (.lst (cs.map dM))), some (.dat (.int op)), some (.dat (.int le)), rfl, rfl, rfl, rfl, rfl, rfl, ?_⟩
  unfold bLaw
  rw [evSs, T1, seq_nx, evSs, T2, seq_nx, evSs, T3, seq_nx, evSs, T4, seq_nx, evSs, T5, seq_nx, evSs, T6, seq_nx, evSs, T7, seq_nx, evSs, T8, seq_nx, evSs]
  rfl
theorem law_loop (ns : List Int) : ∀ (ks : List Nat) (x1 x2 x3 x4 x5 x6 x7 : Option Cell), (∀ k, k ∈ ks → k < 100) → frC x1 = true → frC x2 = true → frC x3 = true → frC x4 = true → frC x5 = true → frC x6 = true → frC x7 = true →
    ∃ y1 y2 y3 y4 y5 y6 y7, forL (.name 1) (fun e => evSs g_law bLaw e) (ks.map fun k : Nat => D.int (k : Int)) [some (.dat (.lst (ns.map .int))), x1, x2, x3, x4, x5, x6, x7, none, none] = .nx [some (.dat (.lst (ns.map .int))), y1, y2, y3, y4, y5, y6, y7, none, none]
  | [], x1, x2, x3, x4, x5, x6, x7, _, _, _, _, _, _, _, _ => ⟨x1, x2, x3, x4, x5, x6, x7, rfl⟩
  | k :: ks, x1, x2, x3, x4, x5, x6, x7, h, h1, h2, h3, h4, h5, h6, h7 => by
    obtain ⟨z2, z3, z4, z5, z6, z7, g2, g3, g4, g5, g6, g7, ht⟩ := law_turn ns k (h k List.mem_cons_self) x2 x3 x4 x5 x6 x7 h2 h3 h4 h5 h6 h7
    obtain ⟨y1, y2, y3, y4, y5, y6, y7, e⟩ := law_loop ns ks (some (.dat (.int k))) z2 z3 z4 z5 z6 z7 (fun j hj => h j (List.mem_cons_of_mem _ hj)) rfl g2 g3 g4 g5 g6 g7
    refine ⟨y1, y2, y3, y4, y5, y6, y7, ?_⟩
    have hb : bindT (.name 1) (.int k) [some (.dat (.lst (ns.map .int))), x1, x2, x3, x4, x5, x6, x7, none, none] = some [some (.dat (.lst (ns.map .int))), some (.dat (.int k)), x2, x3, x4, x5, x6, x7, none, none] := by
      unfold bindT
      simp [freeB_eq, h1]
    rw [List.map_cons, forL, hb]
    dsimp only
    rw [ht]
    exact e
theorem gre_two (a b : Nat) : greM [some a, some b] = some (max a b) := by
  refine eq_at fun y => ?_
  unfold greM
  rw [if_neg (by simp), nth_at _ _ _ (by simp), cnt_cons, cnt_cons]
  have e : cnt [] y = 0 := rfl
  have ha : atM (some a) y ↔ a ≤ y := ⟨fun ⟨c, e, k⟩ => by cases e; exact k, fun k => ⟨a, rfl, k⟩⟩
  have hb : atM (some b) y ↔ b ≤ y := ⟨fun ⟨c, e, k⟩ => by cases e; exact k, fun k => ⟨b, rfl, k⟩⟩
  have hc : atM (some (max a b)) y ↔ max a b ≤ y := ⟨fun ⟨c, e, k⟩ => by cases e; exact k, fun k => ⟨_, rfl, k⟩⟩
  rw [e, hc]
  by_cases h1 : a ≤ y <;> by_cases h2 : b ≤ y <;> simp [ha, hb, h1, h2] <;> omega
theorem ex_row : roomM [some 0, some 20] [60, 5] [some 10, none] 5 = [(some 0, some 30), (some 35, some 40)] := by
  simp [roomM, roomI, rpair, gre_two, lesM, ltM]
theorem math (ns : List Int) (hl : ns.length ≤ 63) : ∃ out, semB g_law 10 none b_law [.lst (ns.map .int)] = .ok (.bl true) out := by
  refine ⟨[], ?_⟩
  have q := s_rounds (ns.map .int)
  obtain ⟨m, hm⟩ : ∃ m, max 1 (min (ns.map D.int).length 4) = m := ⟨_, rfl⟩
  have hm4 : m ≤ 4 := by omega
  rw [hm] at q
  have io : iotaD 0 m = (List.range' 0 m).map fun k : Nat => D.int (k : Int) := iota_map' 0 m
  obtain ⟨y1, y2, y3, y4, y5, y6, y7, hf⟩ := law_loop ns (List.range' 0 m) none none none none none none none (fun k hk => by have := List.mem_range'_1.mp hk; omega) rfl rfl rfl rfl rfl rfl rfl
  rw [← io] at hf
  have e0 : b_law = [.for_ (.name 1) (.seq (.call 0 [.v 0])) bLaw, .ret (.and_ (.cmp .eq (.call 8 [.lst [], .lst [], .c (.int 0), .lst []]) (.lst [])) (.cmp .eq (.call 8 [.lst [.c (.int 0), .c (.int 20)], .lst [.c (.int 60), .c (.int 5)], .c (.int 5), .lst [.c (.int 10), .c .non]]) (.lst [.tup [.c (.int 0), .c (.int 30)], .tup [.c (.int 35), .c (.int 40)]])))] := rfl
  have E : evi g_law (.seq (.call 0 [.v 0])) [some (.dat (.lst (ns.map .int))), none, none, none, none, none, none, none, none, none] = .ok (iotaD 0 m) [some (.dat (.lst (ns.map .int))), none, none, none, none, none, none, none, none, none] := by
    rw [evi, cl_law_0]
    show (R.take (runF _ (f__law_rounds.sem [.lst (ns.map .int)]))).bind _ = _
    rw [q]
    rfl
  have T1 : evS g_law (.for_ (.name 1) (.seq (.call 0 [.v 0])) bLaw) [some (.dat (.lst (ns.map .int))), none, none, none, none, none, none, none, none, none] = .nx [some (.dat (.lst (ns.map .int))), y1, y2, y3, y4, y5, y6, y7, none, none] := by
    rw [evS, E]
    exact hf
  have T2 : ∀ env : Env, evS g_law (.ret (.and_ (.cmp .eq (.call 8 [.lst [], .lst [], .c (.int 0), .lst []]) (.lst [])) (.cmp .eq (.call 8 [.lst [.c (.int 0), .c (.int 20)], .lst [.c (.int 60), .c (.int 5)], .c (.int 5), .lst [.c (.int 10), .c .non]]) (.lst [.tup [.c (.int 0), .c (.int 30)], .tup [.c (.int 35), .c (.int 40)]])))) env = .rt (.bl true) env := by
    intro env
    have r1 : f_room_row.sem [.lst [], .lst [], .int 0, .lst []] = .ok (.lst []) [] := s_room_row [] [] [] 0 rfl rfl (by decide)
    have r2 : f_room_row.sem [.lst [.int 0, .int 20], .lst [.int 60, .int 5], .int 5, .lst [.int 10, .non]] = .ok (.lst [.tup [.int 0, .int 30], .tup [.int 35, .int 40]]) [] := by
      have := s_room_row [some 0, some 20] [60, 5] [some 10, none] 5 rfl rfl (by decide)
      rw [ex_row] at this
      exact this
    have c1 : cmpD .eq (.lst []) (.lst []) = some true := by kernel_rfl
    have c2 : cmpD .eq (.lst [.tup [.int 0, .int 30], .tup [.int 35, .int 40]]) (.lst [.tup [.int 0, .int 30], .tup [.int 35, .int 40]]) = some true := by kernel_rfl
    have hb : 2 ≤ BIG := by decide
    simp [evSs, evS, evs, evr, truR, startE, cellsF, cellF, evq_c, evq_v, evq_bin, evq_cmp, evq_chn, evq_and_, evq_or_, evq_not_, evq_neg, evq_ite, evq_tup, evq_lst, evq_ix, evq_blt, evq_isin, R.bind, R.take, R.toS, SR.seq, takeO, rdO, cellAt, content, truD, runF, outE, lift, cl_law_8, r1, r2, c1, c2, hb]
  have st : startE none 10 [D.lst (ns.map .int)] = [some (.dat (.lst (ns.map .int))), none, none, none, none, none, none, none, none, none] := rfl
  have T0 : evSs g_law b_law (startE none 10 [D.lst (ns.map .int)]) = .rt (.bl true) [some (.dat (.lst (ns.map .int))), y1, y2, y3, y4, y5, y6, y7, none, none] := by
    rw [e0, st, evSs, T1, seq_nx, evSs, T2]
    rfl
  rw [semB, T0]
  rfl
end Mp
set_option maxHeartbeats 4000000
namespace Mp
open PySem L2 PyProof.Rows
theorem tabS_empty {H : Hp} {P : Addr} {q : Str} (h : H P = some (.tbl #[])) : LamX.TabS H P q := ⟨#[], h, trivial, fun pos cv hc => by cases hc⟩
theorem tabIn_of {K : PySem.W.Frag} {x : Str} {f c P : Addr} {oc xo : Value} {od xd : Option Addr} {fd : FuncData} {sl xs : Array (Option Value)} {vs : Array Value} (ha : PySem.W.nsIn K mainGlobals x = some (some (.ref f))) (hl : K.lookup f = some ⟨oc, od, .func fd, sl⟩) (hc : fd.code = .ref c) (hx : K.lookup c = some ⟨xo, xd, .fields vs, xs⟩) (hp : (vs[11]? : Option Value) = some (.ref P)) : PySem.W.tabIn K x = some (c, P) := by
  unfold PySem.W.tabIn
  rw [ha]
  dsimp only
  rw [hl]
  dsimp only
  rw [hc]
  dsimp only
  rw [hx]
  dsimp only
  rw [hp]
theorem FnOk.imp [GdW] {P : Program} {w : World} {K : PySem.W.Frag} {mg : Str → Option Value} {base : Heap} {CX : CXT} {k : Nat} {f : Addr} {fd : FuncData} {ps : List Str} {sp sp2 : Sp} (F : FnOk P w K mg base CX k f fd ps sp) (h : ∀ vs H Q E, sp2 vs H Q E → sp vs H Q E) : FnOk P w K mg base CX k f fd ps sp2 := ⟨fun vs H Q E z => F.len vs H Q E (h _ _ _ _ z), fun A out s H args us vs Q E hr e0 b r z => F.go A out s H args us vs Q E hr e0 b r (h _ _ _ _ z)⟩
theorem exm_cc {K : PySem.W.Frag} {S S' : Addr} {r : Bool} (h1 : PySem.W.subIn K (.ref S') (.type "BaseException") = some true) (h2 : PySem.W.isClsIn K S' = true) (h3 : PySem.W.typeIn K (.ref S') = some (.type "type")) (h4 : PySem.W.subIn K (.ref S) (.ref S') = some r) : PySem.W.exmOne K (.ref S) (.ref S') = some r := by
  have e1 : (PySem.W.subIn K (.ref S') (.type "BaseException") == some true) = true := by rw [h1] <;> rfl
  have e2 : ((PySem.W.clsIn K S').isSome && PySem.W.typeIn K (.ref S') == some (.type "type")) = true := by
    have h2' : (PySem.W.clsIn K S').isSome = true := h2
    rw [h2', h3] <;> rfl
  show (if (PySem.W.subIn K (.ref S') (.type "BaseException") == some true) = true then (if ((PySem.W.clsIn K S').isSome && PySem.W.typeIn K (.ref S') == some (.type "type")) = true then PySem.W.subIn K (.ref S) (.ref S') else none) else none) = some r
  rw [if_pos e1, if_pos e2]
  exact h4
theorem all_mk {l : PySem.W.OpenLaw} {w : World} {K : PySem.W.Frag} {h : Heap} {mg : Str → Option Value} {fa C_BadPart I_BadPart N_BadPart C_DayError C_BadNumber I_BadNumber N_BadNumber C_BadIndex I_BadIndex N_BadIndex f0 f1 f2 f3 f4 f5 f6 f7 f8 f9 f10 f11 f12 f13 f14 f15 f16 f17 f18 f19 f20 f21 f22 f23 f24 f25 f26 f27 f28 f29 f30 f31 f32 f33 f34 f35 f36 f37 f38 f39 f40 cc40 P40 f41 cc41 P41 f42 fH0 : Addr} (X : K.In h) (G : h.Ns mainGlobals mg) (hfa : mg "law" = some (.ref fa))
    {nm_BadPart q_BadPart : Str} {bs_BadPart sub_BadPart : List Value} {sn_BadPart : List Str} {ab_BadPart : Bool} {col_BadPart : Option Bool} {dd_BadPart : Option Addr} {m0_BadPart m1_BadPart m2_BadPart m3_BadPart m5_BadPart : Option Value}
    {od_BadPart an_BadPart : Option Addr} {sl_BadPart : Array (Option Value)} {oc_BadPart dc_BadPart pm_BadPart cd_BadPart ct_BadPart : Value}
    {nm_BadNumber q_BadNumber : Str} {bs_BadNumber sub_BadNumber : List Value} {sn_BadNumber : List Str} {ab_BadNumber : Bool} {col_BadNumber : Option Bool} {dd_BadNumber : Option Addr} {m0_BadNumber m1_BadNumber m2_BadNumber m3_BadNumber m5_BadNumber : Option Value}
    {od_BadNumber an_BadNumber : Option Addr} {sl_BadNumber : Array (Option Value)} {oc_BadNumber dc_BadNumber pm_BadNumber cd_BadNumber ct_BadNumber : Value}
    {nm_BadIndex q_BadIndex : Str} {bs_BadIndex sub_BadIndex : List Value} {sn_BadIndex : List Str} {ab_BadIndex : Bool} {col_BadIndex : Option Bool} {dd_BadIndex : Option Addr} {m0_BadIndex m1_BadIndex m2_BadIndex m3_BadIndex m5_BadIndex : Option Value}
    {od_BadIndex an_BadIndex : Option Addr} {sl_BadIndex : Array (Option Value)} {oc_BadIndex dc_BadIndex pm_BadIndex cd_BadIndex ct_BadIndex : Value}
    {od0 an0 od1 an1 od2 an2 od3 an3 od4 an4 od5 an5 od6 an6 od7 an7 od8 an8 od9 an9 od10 an10 od11 an11 od12 an12 od13 an13 od14 an14 od15 an15 od16 an16 od17 an17 od18 an18 od19 an19 od20 an20 od21 an21 od22 an22 od23 an23 od24 an24 od25 an25 od26 an26 od27 an27 od28 an28 od29 an29 od30 an30 od31 an31 od32 an32 od33 an33 od34 an34 od35 an35 od36 an36 od37 an37 od38 an38 od39 an39 od40 an40 od41 an41 od42 an42 odH0 anH0 : Option Addr} {sl0 sl1 sl2 sl3 sl4 sl5 sl6 sl7 sl8 sl9 sl10 sl11 sl12 sl13 sl14 sl15 sl16 sl17 sl18 sl19 sl20 sl21 sl22 sl23 sl24 sl25 sl26 sl27 sl28 sl29 sl30 sl31 sl32 sl33 sl34 sl35 sl36 sl37 sl38 sl39 sl40 sl41 sl42 slH0 : Array (Option Value)} {oc0 kV0 dc0 pm0 cd0 ct0 oc1 kV1 dc1 pm1 cd1 ct1 oc2 kV2 dc2 pm2 cd2 ct2 oc3 kV3 dc3 pm3 cd3 ct3 oc4 kV4 dc4 pm4 cd4 ct4 oc5 kV5 dc5 pm5 cd5 ct5 oc6 kV6 dc6 pm6 cd6 ct6 oc7 kV7 dc7 pm7 cd7 ct7 oc8 kV8 dc8 pm8 cd8 ct8 oc9 kV9 dc9 pm9 cd9 ct9 oc10 kV10 dc10 pm10 cd10 ct10 oc11 kV11 dc11 pm11 cd11 ct11 oc12 kV12 dc12 pm12 cd12 ct12 oc13 kV13 dc13 pm13 cd13 ct13 oc14 kV14 dc14 pm14 cd14 ct14 oc15 kV15 dc15 pm15 cd15 ct15 oc16 kV16 dc16 pm16 cd16 ct16 oc17 kV17 dc17 pm17 cd17 ct17 oc18 kV18 dc18 pm18 cd18 ct18 oc19 kV19 dc19 pm19 cd19 ct19 oc20 kV20 dc20 pm20 cd20 ct20 oc21 kV21 dc21 pm21 cd21 ct21 oc22 kV22 dc22 pm22 cd22 ct22 oc23 kV23 dc23 pm23 cd23 ct23 oc24 kV24 dc24 pm24 cd24 ct24 oc25 kV25 dc25 pm25 cd25 ct25 oc26 kV26 dc26 pm26 cd26 ct26 oc27 kV27 dc27 pm27 cd27 ct27 oc28 kV28 dc28 pm28 cd28 ct28 oc29 kV29 dc29 pm29 cd29 ct29 oc30 kV30 dc30 pm30 cd30 ct30 oc31 kV31 dc31 pm31 cd31 ct31 oc32 kV32 dc32 pm32 cd32 ct32 oc33 kV33 dc33 pm33 cd33 ct33 oc34 kV34 dc34 pm34 cd34 ct34 oc35 kV35 dc35 pm35 cd35 ct35 oc36 kV36 dc36 pm36 cd36 ct36 oc37 kV37 dc37 pm37 cd37 ct37 oc38 kV38 dc38 pm38 cd38 ct38 oc39 kV39 dc39 pm39 cd39 ct39 oc40 kV40 dc40 pm40  ct40 oc41 kV41 dc41 pm41  ct41 oc42 kV42 dc42 pm42 cd42 ct42 ocH0 kVH0 dcH0 pmH0 cdH0 ctH0 : Value}
    {xo40 : Value} {xd40 : Option Addr} {xv40 : Array Value} {xs40 : Array (Option Value)}
    {xo41 : Value} {xd41 : Option Addr} {xv41 : Array Value} {xs41 : Array (Option Value)}
    (th40 : PySem.W.CodeHd h cc40 P40 ∧ h.get? P40 = some tab0)
    (th41 : PySem.W.CodeHd h cc41 P41 ∧ h.get? P41 = some tab0)
    (aC_BadPart : PySem.W.nsIn K mainGlobals "BadPart" = some (some (.ref C_BadPart)))
    (xC_BadPart : K.lookup C_BadPart = some (excClassObj nm_BadPart q_BadPart C_BadPart N_BadPart bs_BadPart [.ref C_DayError, .type "ValueError", .type "Exception", .type "BaseException", .type "object"] true sn_BadPart sub_BadPart ab_BadPart col_BadPart dd_BadPart m0_BadPart m1_BadPart m2_BadPart m3_BadPart m5_BadPart "ValueError.__new__"))
    (saC_BadPart : PySem.W.findIn K (.ref C_BadPart) "__setattr__" = some (some (.builtin "object.__setattr__")))
    (gaC_BadPart : PySem.W.findIn K (.ref C_BadPart) "__getattribute__" = some (some (.builtin "BaseException.__getattribute__")))
    (ggC_BadPart : PySem.W.findIn K (.ref C_BadPart) "__getattr__" = some none)
    (nbC_BadPart : PySem.W.findIn K (.ref C_BadPart) "part" = some none)
    (iC_BadPart : PySem.W.findIn K (.ref C_BadPart) "__init__" = some (some (.ref I_BadPart)))
    (tiC_BadPart : PySem.W.typeIn K (.ref I_BadPart) = some (.type "function"))
    (lC_BadPart : K.lookup I_BadPart = some ⟨oc_BadPart, od_BadPart, .func (PySem.W.fnOf "__init__" "BadPart.__init__" (PySem.ErrBadPart.iA ⟨6, 17, 6, 21⟩ ⟨6, 23, 6, 27⟩) (PySem.ErrBadPart.iB ⟨7, 8, 7, 12⟩ ⟨7, 8, 7, 17⟩ ⟨7, 20, 7, 24⟩ ⟨7, 8, 7, 24⟩) PySem.ErrBadPart.iS .none .none dc_BadPart pm_BadPart an_BadPart cd_BadPart ct_BadPart), sl_BadPart⟩)
    (cC_BadPart : PySem.W.codeIn K cd_BadPart "BadPart.__init__" = true)
    (kC_BadPart : PySem.W.keepIn K (.ref C_BadPart) = true)
    (eC_BadPart : PySem.W.subIn K (.ref C_BadPart) (.type "BaseException") = some true)
    (tyC_BadPart : PySem.W.typeIn K (.ref C_BadPart) = some (.type "type"))
    (hdC_BadPart : PySem.W.hasDictIn K C_BadPart = true)
    (icC_BadPart : PySem.W.isClsIn K C_BadPart = true)
    (aC_BadNumber : PySem.W.nsIn K mainGlobals "BadNumber" = some (some (.ref C_BadNumber)))
    (xC_BadNumber : K.lookup C_BadNumber = some (excClassObj nm_BadNumber q_BadNumber C_BadNumber N_BadNumber bs_BadNumber [.ref C_DayError, .type "ValueError", .type "Exception", .type "BaseException", .type "object"] true sn_BadNumber sub_BadNumber ab_BadNumber col_BadNumber dd_BadNumber m0_BadNumber m1_BadNumber m2_BadNumber m3_BadNumber m5_BadNumber "ValueError.__new__"))
    (saC_BadNumber : PySem.W.findIn K (.ref C_BadNumber) "__setattr__" = some (some (.builtin "object.__setattr__")))
    (gaC_BadNumber : PySem.W.findIn K (.ref C_BadNumber) "__getattribute__" = some (some (.builtin "BaseException.__getattribute__")))
    (ggC_BadNumber : PySem.W.findIn K (.ref C_BadNumber) "__getattr__" = some none)
    (nbC_BadNumber : PySem.W.findIn K (.ref C_BadNumber) "number" = some none)
    (iC_BadNumber : PySem.W.findIn K (.ref C_BadNumber) "__init__" = some (some (.ref I_BadNumber)))
    (tiC_BadNumber : PySem.W.typeIn K (.ref I_BadNumber) = some (.type "function"))
    (lC_BadNumber : K.lookup I_BadNumber = some ⟨oc_BadNumber, od_BadNumber, .func (PySem.W.fnOf "__init__" "BadNumber.__init__" (PySem.ErrBadNumber.iA ⟨10, 17, 10, 21⟩ ⟨10, 23, 10, 29⟩) (PySem.ErrBadNumber.iB ⟨11, 8, 11, 12⟩ ⟨11, 8, 11, 19⟩ ⟨11, 22, 11, 28⟩ ⟨11, 8, 11, 28⟩) PySem.ErrBadNumber.iS .none .none dc_BadNumber pm_BadNumber an_BadNumber cd_BadNumber ct_BadNumber), sl_BadNumber⟩)
    (cC_BadNumber : PySem.W.codeIn K cd_BadNumber "BadNumber.__init__" = true)
    (kC_BadNumber : PySem.W.keepIn K (.ref C_BadNumber) = true)
    (eC_BadNumber : PySem.W.subIn K (.ref C_BadNumber) (.type "BaseException") = some true)
    (tyC_BadNumber : PySem.W.typeIn K (.ref C_BadNumber) = some (.type "type"))
    (hdC_BadNumber : PySem.W.hasDictIn K C_BadNumber = true)
    (icC_BadNumber : PySem.W.isClsIn K C_BadNumber = true)
    (aC_BadIndex : PySem.W.nsIn K mainGlobals "BadIndex" = some (some (.ref C_BadIndex)))
    (xC_BadIndex : K.lookup C_BadIndex = some (excClassObj nm_BadIndex q_BadIndex C_BadIndex N_BadIndex bs_BadIndex [.ref C_DayError, .type "ValueError", .type "Exception", .type "BaseException", .type "object"] true sn_BadIndex sub_BadIndex ab_BadIndex col_BadIndex dd_BadIndex m0_BadIndex m1_BadIndex m2_BadIndex m3_BadIndex m5_BadIndex "ValueError.__new__"))
    (saC_BadIndex : PySem.W.findIn K (.ref C_BadIndex) "__setattr__" = some (some (.builtin "object.__setattr__")))
    (gaC_BadIndex : PySem.W.findIn K (.ref C_BadIndex) "__getattribute__" = some (some (.builtin "BaseException.__getattribute__")))
    (ggC_BadIndex : PySem.W.findIn K (.ref C_BadIndex) "__getattr__" = some none)
    (nbC_BadIndex : PySem.W.findIn K (.ref C_BadIndex) "index" = some none)
    (iC_BadIndex : PySem.W.findIn K (.ref C_BadIndex) "__init__" = some (some (.ref I_BadIndex)))
    (tiC_BadIndex : PySem.W.typeIn K (.ref I_BadIndex) = some (.type "function"))
    (lC_BadIndex : K.lookup I_BadIndex = some ⟨oc_BadIndex, od_BadIndex, .func (PySem.W.fnOf "__init__" "BadIndex.__init__" (PySem.ErrBadIndex.iA ⟨14, 17, 14, 21⟩ ⟨14, 23, 14, 28⟩) (PySem.ErrBadIndex.iB ⟨15, 8, 15, 12⟩ ⟨15, 8, 15, 18⟩ ⟨15, 21, 15, 26⟩ ⟨15, 8, 15, 26⟩) PySem.ErrBadIndex.iS .none .none dc_BadIndex pm_BadIndex an_BadIndex cd_BadIndex ct_BadIndex), sl_BadIndex⟩)
    (cC_BadIndex : PySem.W.codeIn K cd_BadIndex "BadIndex.__init__" = true)
    (kC_BadIndex : PySem.W.keepIn K (.ref C_BadIndex) = true)
    (eC_BadIndex : PySem.W.subIn K (.ref C_BadIndex) (.type "BaseException") = some true)
    (tyC_BadIndex : PySem.W.typeIn K (.ref C_BadIndex) = some (.type "type"))
    (hdC_BadIndex : PySem.W.hasDictIn K C_BadIndex = true)
    (icC_BadIndex : PySem.W.isClsIn K C_BadIndex = true)
    (su_BadPart_BadPart : PySem.W.subIn K (.ref C_BadPart) (.ref C_BadPart) = some true)
    (su_BadPart_BadNumber : PySem.W.subIn K (.ref C_BadPart) (.ref C_BadNumber) = some false)
    (su_BadPart_BadIndex : PySem.W.subIn K (.ref C_BadPart) (.ref C_BadIndex) = some false)
    (su_BadNumber_BadPart : PySem.W.subIn K (.ref C_BadNumber) (.ref C_BadPart) = some false)
    (su_BadNumber_BadNumber : PySem.W.subIn K (.ref C_BadNumber) (.ref C_BadNumber) = some true)
    (su_BadNumber_BadIndex : PySem.W.subIn K (.ref C_BadNumber) (.ref C_BadIndex) = some false)
    (su_BadIndex_BadPart : PySem.W.subIn K (.ref C_BadIndex) (.ref C_BadPart) = some false)
    (su_BadIndex_BadNumber : PySem.W.subIn K (.ref C_BadIndex) (.ref C_BadNumber) = some false)
    (su_BadIndex_BadIndex : PySem.W.subIn K (.ref C_BadIndex) (.ref C_BadIndex) = some true)
    (Z_isinstance : PySem.W.nsIn K mainGlobals "isinstance" = some none)
    (Z_int : PySem.W.nsIn K mainGlobals "int" = some none)
    (Z_bool : PySem.W.nsIn K mainGlobals "bool" = some none)
    (Z_list : PySem.W.nsIn K mainGlobals "list" = some none)
    (Z_tuple : PySem.W.nsIn K mainGlobals "tuple" = some none)
    (Z_all : PySem.W.nsIn K mainGlobals "all" = some none)
    (Z_sorted : PySem.W.nsIn K mainGlobals "sorted" = some none)
    (Z_len : PySem.W.nsIn K mainGlobals "len" = some none)
    (Z_enumerate : PySem.W.nsIn K mainGlobals "enumerate" = some none)
    (Z_max : PySem.W.nsIn K mainGlobals "max" = some none)
    (Z_range : PySem.W.nsIn K mainGlobals "range" = some none)
    (Z_min : PySem.W.nsIn K mainGlobals "min" = some none)
    (Z_repr : PySem.W.nsIn K mainGlobals "repr" = some none)
    (a0 : PySem.W.nsIn K mainGlobals "is_whole" = some (some (.ref f0)))
    (l0 : K.lookup f0 = some ⟨oc0, od0, .func (PySem.W.fnOf "is_whole" "is_whole" (defArgs (top 6)) (defBody (top 6)) (defScope (top 6)) .none kV0 dc0 pm0 an0 cd0 ct0), sl0⟩)
    (c0 : PySem.W.codeIn K cd0 "is_whole" = true)
    (k0 : PySem.W.keepIn K (.ref f0) = true)
    (a1 : PySem.W.nsIn K mainGlobals "is_between" = some (some (.ref f1)))
    (l1 : K.lookup f1 = some ⟨oc1, od1, .func (PySem.W.fnOf "is_between" "is_between" (defArgs (top 7)) (defBody (top 7)) (defScope (top 7)) .none kV1 dc1 pm1 an1 cd1 ct1), sl1⟩)
    (c1 : PySem.W.codeIn K cd1 "is_between" = true)
    (k1 : PySem.W.keepIn K (.ref f1) = true)
    (a2 : PySem.W.nsIn K mainGlobals "is_count" = some (some (.ref f2)))
    (l2 : K.lookup f2 = some ⟨oc2, od2, .func (PySem.W.fnOf "is_count" "is_count" (defArgs (top 8)) (defBody (top 8)) (defScope (top 8)) .none kV2 dc2 pm2 an2 cd2 ct2), sl2⟩)
    (c2 : PySem.W.codeIn K cd2 "is_count" = true)
    (k2 : PySem.W.keepIn K (.ref f2) = true)
    (a3 : PySem.W.nsIn K mainGlobals "is_count_or_never" = some (some (.ref f3)))
    (l3 : K.lookup f3 = some ⟨oc3, od3, .func (PySem.W.fnOf "is_count_or_never" "is_count_or_never" (defArgs (top 9)) (defBody (top 9)) (defScope (top 9)) .none kV3 dc3 pm3 an3 cd3 ct3), sl3⟩)
    (c3 : PySem.W.codeIn K cd3 "is_count_or_never" = true)
    (k3 : PySem.W.keepIn K (.ref f3) = true)
    (a4 : PySem.W.nsIn K mainGlobals "is_listed" = some (some (.ref f4)))
    (l4 : K.lookup f4 = some ⟨oc4, od4, .func (PySem.W.fnOf "is_listed" "is_listed" (defArgs (top 10)) (defBody (top 10)) (defScope (top 10)) .none kV4 dc4 pm4 an4 cd4 ct4), sl4⟩)
    (c4 : PySem.W.codeIn K cd4 "is_listed" = true)
    (k4 : PySem.W.keepIn K (.ref f4) = true)
    (a5 : PySem.W.nsIn K mainGlobals "need_count" = some (some (.ref f5)))
    (l5 : K.lookup f5 = some ⟨oc5, od5, .func (PySem.W.fnOf "need_count" "need_count" (defArgs (top 12)) (defBody (top 12)) (defScope (top 12)) .none kV5 dc5 pm5 an5 cd5 ct5), sl5⟩)
    (c5 : PySem.W.codeIn K cd5 "need_count" = true)
    (k5 : PySem.W.keepIn K (.ref f5) = true)
    (a6 : PySem.W.nsIn K mainGlobals "need_minute" = some (some (.ref f6)))
    (l6 : K.lookup f6 = some ⟨oc6, od6, .func (PySem.W.fnOf "need_minute" "need_minute" (defArgs (top 13)) (defBody (top 13)) (defScope (top 13)) .none kV6 dc6 pm6 an6 cd6 ct6), sl6⟩)
    (c6 : PySem.W.codeIn K cd6 "need_minute" = true)
    (k6 : PySem.W.keepIn K (.ref f6) = true)
    (a7 : PySem.W.nsIn K mainGlobals "need_minutes" = some (some (.ref f7)))
    (l7 : K.lookup f7 = some ⟨oc7, od7, .func (PySem.W.fnOf "need_minutes" "need_minutes" (defArgs (top 14)) (defBody (top 14)) (defScope (top 14)) .none kV7 dc7 pm7 an7 cd7 ct7), sl7⟩)
    (c7 : PySem.W.codeIn K cd7 "need_minutes" = true)
    (k7 : PySem.W.keepIn K (.ref f7) = true)
    (a8 : PySem.W.nsIn K mainGlobals "is_less" = some (some (.ref f8)))
    (l8 : K.lookup f8 = some ⟨oc8, od8, .func (PySem.W.fnOf "is_less" "is_less" (defArgs (top 16)) (defBody (top 16)) (defScope (top 16)) .none kV8 dc8 pm8 an8 cd8 ct8), sl8⟩)
    (c8 : PySem.W.codeIn K cd8 "is_less" = true)
    (k8 : PySem.W.keepIn K (.ref f8) = true)
    (a9 : PySem.W.nsIn K mainGlobals "lesser" = some (some (.ref f9)))
    (l9 : K.lookup f9 = some ⟨oc9, od9, .func (PySem.W.fnOf "lesser" "lesser" (defArgs (top 17)) (defBody (top 17)) (defScope (top 17)) .none kV9 dc9 pm9 an9 cd9 ct9), sl9⟩)
    (c9 : PySem.W.codeIn K cd9 "lesser" = true)
    (k9 : PySem.W.keepIn K (.ref f9) = true)
    (a10 : PySem.W.nsIn K mainGlobals "minutes_more" = some (some (.ref f10)))
    (l10 : K.lookup f10 = some ⟨oc10, od10, .func (PySem.W.fnOf "minutes_more" "minutes_more" (defArgs (top 18)) (defBody (top 18)) (defScope (top 18)) .none kV10 dc10 pm10 an10 cd10 ct10), sl10⟩)
    (c10 : PySem.W.codeIn K cd10 "minutes_more" = true)
    (k10 : PySem.W.keepIn K (.ref f10) = true)
    (a11 : PySem.W.nsIn K mainGlobals "nth_least" = some (some (.ref f11)))
    (l11 : K.lookup f11 = some ⟨oc11, od11, .func (PySem.W.fnOf "nth_least" "nth_least" (defArgs (top 19)) (defBody (top 19)) (defScope (top 19)) .none kV11 dc11 pm11 an11 cd11 ct11), sl11⟩)
    (c11 : PySem.W.codeIn K cd11 "nth_least" = true)
    (k11 : PySem.W.keepIn K (.ref f11) = true)
    (a12 : PySem.W.nsIn K mainGlobals "later_by" = some (some (.ref f12)))
    (l12 : K.lookup f12 = some ⟨oc12, od12, .func (PySem.W.fnOf "later_by" "later_by" (defArgs (top 21)) (defBody (top 21)) (defScope (top 21)) .none kV12 dc12 pm12 an12 cd12 ct12), sl12⟩)
    (c12 : PySem.W.codeIn K cd12 "later_by" = true)
    (k12 : PySem.W.keepIn K (.ref f12) = true)
    (a13 : PySem.W.nsIn K mainGlobals "greatest" = some (some (.ref f13)))
    (l13 : K.lookup f13 = some ⟨oc13, od13, .func (PySem.W.fnOf "greatest" "greatest" (defArgs (top 22)) (defBody (top 22)) (defScope (top 22)) .none kV13 dc13 pm13 an13 cd13 ct13), sl13⟩)
    (c13 : PySem.W.codeIn K cd13 "greatest" = true)
    (k13 : PySem.W.keepIn K (.ref f13) = true)
    (a14 : PySem.W.nsIn K mainGlobals "need_nth" = some (some (.ref f14)))
    (l14 : K.lookup f14 = some ⟨oc14, od14, .func (PySem.W.fnOf "need_nth" "need_nth" (defArgs (top 23)) (defBody (top 23)) (defScope (top 23)) .none kV14 dc14 pm14 an14 cd14 ct14), sl14⟩)
    (c14 : PySem.W.codeIn K cd14 "need_nth" = true)
    (k14 : PySem.W.keepIn K (.ref f14) = true)
    (a15 : PySem.W.nsIn K mainGlobals "nth" = some (some (.ref f15)))
    (l15 : K.lookup f15 = some ⟨oc15, od15, .func (PySem.W.fnOf "nth" "nth" (defArgs (top 24)) (defBody (top 24)) (defScope (top 24)) .none kV15 dc15 pm15 an15 cd15 ct15), sl15⟩)
    (c15 : PySem.W.codeIn K cd15 "nth" = true)
    (k15 : PySem.W.keepIn K (.ref f15) = true)
    (a16 : PySem.W.nsIn K mainGlobals "need_quorum" = some (some (.ref f16)))
    (l16 : K.lookup f16 = some ⟨oc16, od16, .func (PySem.W.fnOf "need_quorum" "need_quorum" (defArgs (top 26)) (defBody (top 26)) (defScope (top 26)) .none kV16 dc16 pm16 an16 cd16 ct16), sl16⟩)
    (c16 : PySem.W.codeIn K cd16 "need_quorum" = true)
    (k16 : PySem.W.keepIn K (.ref f16) = true)
    (a17 : PySem.W.nsIn K mainGlobals "need_lengths" = some (some (.ref f17)))
    (l17 : K.lookup f17 = some ⟨oc17, od17, .func (PySem.W.fnOf "need_lengths" "need_lengths" (defArgs (top 27)) (defBody (top 27)) (defScope (top 27)) .none kV17 dc17 pm17 an17 cd17 ct17), sl17⟩)
    (c17 : PySem.W.codeIn K cd17 "need_lengths" = true)
    (k17 : PySem.W.keepIn K (.ref f17) = true)
    (a18 : PySem.W.nsIn K mainGlobals "need_notices" = some (some (.ref f18)))
    (l18 : K.lookup f18 = some ⟨oc18, od18, .func (PySem.W.fnOf "need_notices" "need_notices" (defArgs (top 28)) (defBody (top 28)) (defScope (top 28)) .none kV18 dc18 pm18 an18 cd18 ct18), sl18⟩)
    (c18 : PySem.W.codeIn K cd18 "need_notices" = true)
    (k18 : PySem.W.keepIn K (.ref f18) = true)
    (a19 : PySem.W.nsIn K mainGlobals "meeting_begin" = some (some (.ref f19)))
    (l19 : K.lookup f19 = some ⟨oc19, od19, .func (PySem.W.fnOf "meeting_begin" "meeting_begin" (defArgs (top 29)) (defBody (top 29)) (defScope (top 29)) .none kV19 dc19 pm19 an19 cd19 ct19), sl19⟩)
    (c19 : PySem.W.codeIn K cd19 "meeting_begin" = true)
    (k19 : PySem.W.keepIn K (.ref f19) = true)
    (a20 : PySem.W.nsIn K mainGlobals "meeting_end" = some (some (.ref f20)))
    (l20 : K.lookup f20 = some ⟨oc20, od20, .func (PySem.W.fnOf "meeting_end" "meeting_end" (defArgs (top 30)) (defBody (top 30)) (defScope (top 30)) .none kV20 dc20 pm20 an20 cd20 ct20), sl20⟩)
    (c20 : PySem.W.codeIn K cd20 "meeting_end" = true)
    (k20 : PySem.W.keepIn K (.ref f20) = true)
    (a21 : PySem.W.nsIn K mainGlobals "meeting_row" = some (some (.ref f21)))
    (l21 : K.lookup f21 = some ⟨oc21, od21, .func (PySem.W.fnOf "meeting_row" "meeting_row" (defArgs (top 31)) (defBody (top 31)) (defScope (top 31)) .none kV21 dc21 pm21 an21 cd21 ct21), sl21⟩)
    (c21 : PySem.W.codeIn K cd21 "meeting_row" = true)
    (k21 : PySem.W.keepIn K (.ref f21) = true)
    (a22 : PySem.W.nsIn K mainGlobals "room_begin" = some (some (.ref f22)))
    (l22 : K.lookup f22 = some ⟨oc22, od22, .func (PySem.W.fnOf "room_begin" "room_begin" (defArgs (top 32)) (defBody (top 32)) (defScope (top 32)) .none kV22 dc22 pm22 an22 cd22 ct22), sl22⟩)
    (c22 : PySem.W.codeIn K cd22 "room_begin" = true)
    (k22 : PySem.W.keepIn K (.ref f22) = true)
    (a23 : PySem.W.nsIn K mainGlobals "room_end" = some (some (.ref f23)))
    (l23 : K.lookup f23 = some ⟨oc23, od23, .func (PySem.W.fnOf "room_end" "room_end" (defArgs (top 33)) (defBody (top 33)) (defScope (top 33)) .none kV23 dc23 pm23 an23 cd23 ct23), sl23⟩)
    (c23 : PySem.W.codeIn K cd23 "room_end" = true)
    (k23 : PySem.W.keepIn K (.ref f23) = true)
    (a24 : PySem.W.nsIn K mainGlobals "guest_end" = some (some (.ref f24)))
    (l24 : K.lookup f24 = some ⟨oc24, od24, .func (PySem.W.fnOf "guest_end" "guest_end" (defArgs (top 34)) (defBody (top 34)) (defScope (top 34)) .none kV24 dc24 pm24 an24 cd24 ct24), sl24⟩)
    (c24 : PySem.W.codeIn K cd24 "guest_end" = true)
    (k24 : PySem.W.keepIn K (.ref f24) = true)
    (a25 : PySem.W.nsIn K mainGlobals "room_row" = some (some (.ref f25)))
    (l25 : K.lookup f25 = some ⟨oc25, od25, .func (PySem.W.fnOf "room_row" "room_row" (defArgs (top 35)) (defBody (top 35)) (defScope (top 35)) .none kV25 dc25 pm25 an25 cd25 ct25), sl25⟩)
    (c25 : PySem.W.codeIn K cd25 "room_row" = true)
    (k25 : PySem.W.keepIn K (.ref f25) = true)
    (a26 : PySem.W.nsIn K mainGlobals "_law_pool" = some (some (.ref f26)))
    (l26 : K.lookup f26 = some ⟨oc26, od26, .func (PySem.W.fnOf "_law_pool" "_law_pool" (defArgs (top 37)) (defBody (top 37)) (defScope (top 37)) .none kV26 dc26 pm26 an26 cd26 ct26), sl26⟩)
    (c26 : PySem.W.codeIn K cd26 "_law_pool" = true)
    (k26 : PySem.W.keepIn K (.ref f26) = true)
    (a27 : PySem.W.nsIn K mainGlobals "_law_take" = some (some (.ref f27)))
    (l27 : K.lookup f27 = some ⟨oc27, od27, .func (PySem.W.fnOf "_law_take" "_law_take" (defArgs (top 38)) (defBody (top 38)) (defScope (top 38)) .none kV27 dc27 pm27 an27 cd27 ct27), sl27⟩)
    (c27 : PySem.W.codeIn K cd27 "_law_take" = true)
    (k27 : PySem.W.keepIn K (.ref f27) = true)
    (a28 : PySem.W.nsIn K mainGlobals "_law_one" = some (some (.ref f28)))
    (l28 : K.lookup f28 = some ⟨oc28, od28, .func (PySem.W.fnOf "_law_one" "_law_one" (defArgs (top 39)) (defBody (top 39)) (defScope (top 39)) .none kV28 dc28 pm28 an28 cd28 ct28), sl28⟩)
    (c28 : PySem.W.codeIn K cd28 "_law_one" = true)
    (k28 : PySem.W.keepIn K (.ref f28) = true)
    (a29 : PySem.W.nsIn K mainGlobals "_law_rounds" = some (some (.ref f29)))
    (l29 : K.lookup f29 = some ⟨oc29, od29, .func (PySem.W.fnOf "_law_rounds" "_law_rounds" (defArgs (top 40)) (defBody (top 40)) (defScope (top 40)) .none kV29 dc29 pm29 an29 cd29 ct29), sl29⟩)
    (c29 : PySem.W.codeIn K cd29 "_law_rounds" = true)
    (k29 : PySem.W.keepIn K (.ref f29) = true)
    (a30 : PySem.W.nsIn K mainGlobals "_law_rank" = some (some (.ref f30)))
    (l30 : K.lookup f30 = some ⟨oc30, od30, .func (PySem.W.fnOf "_law_rank" "_law_rank" (defArgs (top 42)) (defBody (top 42)) (defScope (top 42)) .none kV30 dc30 pm30 an30 cd30 ct30), sl30⟩)
    (c30 : PySem.W.codeIn K cd30 "_law_rank" = true)
    (k30 : PySem.W.keepIn K (.ref f30) = true)
    (a31 : PySem.W.nsIn K mainGlobals "_law_moment" = some (some (.ref f31)))
    (l31 : K.lookup f31 = some ⟨oc31, od31, .func (PySem.W.fnOf "_law_moment" "_law_moment" (defArgs (top 43)) (defBody (top 43)) (defScope (top 43)) .none kV31 dc31 pm31 an31 cd31 ct31), sl31⟩)
    (c31 : PySem.W.codeIn K cd31 "_law_moment" = true)
    (k31 : PySem.W.keepIn K (.ref f31) = true)
    (a32 : PySem.W.nsIn K mainGlobals "_law_sorted" = some (some (.ref f32)))
    (l32 : K.lookup f32 = some ⟨oc32, od32, .func (PySem.W.fnOf "_law_sorted" "_law_sorted" (defArgs (top 44)) (defBody (top 44)) (defScope (top 44)) .none kV32 dc32 pm32 an32 cd32 ct32), sl32⟩)
    (c32 : PySem.W.codeIn K cd32 "_law_sorted" = true)
    (k32 : PySem.W.keepIn K (.ref f32) = true)
    (a33 : PySem.W.nsIn K mainGlobals "_law_so_many_th" = some (some (.ref f33)))
    (l33 : K.lookup f33 = some ⟨oc33, od33, .func (PySem.W.fnOf "_law_so_many_th" "_law_so_many_th" (defArgs (top 45)) (defBody (top 45)) (defScope (top 45)) .none kV33 dc33 pm33 an33 cd33 ct33), sl33⟩)
    (c33 : PySem.W.codeIn K cd33 "_law_so_many_th" = true)
    (k33 : PySem.W.keepIn K (.ref f33) = true)
    (a34 : PySem.W.nsIn K mainGlobals "_law_more" = some (some (.ref f34)))
    (l34 : K.lookup f34 = some ⟨oc34, od34, .func (PySem.W.fnOf "_law_more" "_law_more" (defArgs (top 46)) (defBody (top 46)) (defScope (top 46)) .none kV34 dc34 pm34 an34 cd34 ct34), sl34⟩)
    (c34 : PySem.W.codeIn K cd34 "_law_more" = true)
    (k34 : PySem.W.keepIn K (.ref f34) = true)
    (a35 : PySem.W.nsIn K mainGlobals "_law_max" = some (some (.ref f35)))
    (l35 : K.lookup f35 = some ⟨oc35, od35, .func (PySem.W.fnOf "_law_max" "_law_max" (defArgs (top 47)) (defBody (top 47)) (defScope (top 47)) .none kV35 dc35 pm35 an35 cd35 ct35), sl35⟩)
    (c35 : PySem.W.codeIn K cd35 "_law_max" = true)
    (k35 : PySem.W.keepIn K (.ref f35) = true)
    (a36 : PySem.W.nsIn K mainGlobals "_law_min" = some (some (.ref f36)))
    (l36 : K.lookup f36 = some ⟨oc36, od36, .func (PySem.W.fnOf "_law_min" "_law_min" (defArgs (top 48)) (defBody (top 48)) (defScope (top 48)) .none kV36 dc36 pm36 an36 cd36 ct36), sl36⟩)
    (c36 : PySem.W.codeIn K cd36 "_law_min" = true)
    (k36 : PySem.W.keepIn K (.ref f36) = true)
    (a37 : PySem.W.nsIn K mainGlobals "_law_room" = some (some (.ref f37)))
    (l37 : K.lookup f37 = some ⟨oc37, od37, .func (PySem.W.fnOf "_law_room" "_law_room" (defArgs (top 49)) (defBody (top 49)) (defScope (top 49)) .none kV37 dc37 pm37 an37 cd37 ct37), sl37⟩)
    (c37 : PySem.W.codeIn K cd37 "_law_room" = true)
    (k37 : PySem.W.keepIn K (.ref f37) = true)
    (a38 : PySem.W.nsIn K mainGlobals "_law_meeting_right" = some (some (.ref f38)))
    (l38 : K.lookup f38 = some ⟨oc38, od38, .func (PySem.W.fnOf "_law_meeting_right" "_law_meeting_right" (defArgs (top 50)) (defBody (top 50)) (defScope (top 50)) .none kV38 dc38 pm38 an38 cd38 ct38), sl38⟩)
    (c38 : PySem.W.codeIn K cd38 "_law_meeting_right" = true)
    (k38 : PySem.W.keepIn K (.ref f38) = true)
    (a39 : PySem.W.nsIn K mainGlobals "_law_room_right" = some (some (.ref f39)))
    (l39 : K.lookup f39 = some ⟨oc39, od39, .func (PySem.W.fnOf "_law_room_right" "_law_room_right" (defArgs (top 51)) (defBody (top 51)) (defScope (top 51)) .none kV39 dc39 pm39 an39 cd39 ct39), sl39⟩)
    (c39 : PySem.W.codeIn K cd39 "_law_room_right" = true)
    (k39 : PySem.W.keepIn K (.ref f39) = true)
    (a40 : PySem.W.nsIn K mainGlobals "_law_meeting_refuses" = some (some (.ref f40)))
    (l40 : K.lookup f40 = some ⟨oc40, od40, .func (PySem.W.fnOf "_law_meeting_refuses" "_law_meeting_refuses" (defArgs (top 52)) (defBody (top 52)) (defScope (top 52)) .none kV40 dc40 pm40 an40 (.ref cc40) ct40), sl40⟩)
    (c40 : PySem.W.codeIn K (.ref cc40) "_law_meeting_refuses" = true)
    (k40 : PySem.W.keepIn K (.ref f40) = true)
    (xc40 : K.lookup cc40 = some ⟨xo40, xd40, .fields xv40, xs40⟩)
    (xp40 : (xv40[11]? : Option Value) = some (.ref P40))
    (n40 : K.lookup P40 = none)
    (a41 : PySem.W.nsIn K mainGlobals "_law_room_refuses" = some (some (.ref f41)))
    (l41 : K.lookup f41 = some ⟨oc41, od41, .func (PySem.W.fnOf "_law_room_refuses" "_law_room_refuses" (defArgs (top 53)) (defBody (top 53)) (defScope (top 53)) .none kV41 dc41 pm41 an41 (.ref cc41) ct41), sl41⟩)
    (c41 : PySem.W.codeIn K (.ref cc41) "_law_room_refuses" = true)
    (k41 : PySem.W.keepIn K (.ref f41) = true)
    (xc41 : K.lookup cc41 = some ⟨xo41, xd41, .fields xv41, xs41⟩)
    (xp41 : (xv41[11]? : Option Value) = some (.ref P41))
    (n41 : K.lookup P41 = none)
    (d40_41 : P40 ≠ P41)
    (a42 : PySem.W.nsIn K mainGlobals "law" = some (some (.ref f42)))
    (l42 : K.lookup f42 = some ⟨oc42, od42, .func (PySem.W.fnOf "law" "law" (defArgs (top 54)) (defBody (top 54)) (defScope (top 54)) .none kV42 dc42 pm42 an42 cd42 ct42), sl42⟩)
    (c42 : PySem.W.codeIn K cd42 "law" = true)
    (k42 : PySem.W.keepIn K (.ref f42) = true)
    (aH0 : PySem.W.nsIn K mainGlobals "_law_heard" = some (some (.ref fH0)))
    (lH0 : K.lookup fH0 = some ⟨ocH0, odH0, .func (PySem.W.fnOf "_law_heard" "_law_heard" (defArgs (top 41)) (defBody (top 41)) (defScope (top 41)) .none kVH0 dcH0 pmH0 anH0 cdH0 ctH0), slH0⟩)
    (cH0 : PySem.W.codeIn K cdH0 "_law_heard" = true)
    (kH0 : PySem.W.keepIn K (.ref fH0) = true)
    (math : ∀ [TabsW] [GdW] (ns : List Int), ns.length ≤ 63 → ∃ out, semB g_law 10 none b_law [.lst (ns.map .int)] = .ok (.bl true) out)
    : @LawG ⟨True⟩ l w K (L2.CX l.prog w) 12 63 "_law_script" mg fa h := by
  letI I1 : TabsW := ⟨[(P40, (PySem.Str.ofString "_law_meeting_refuses" ++ PySem.Str.ofString ".<locals>." ++ "<lambda>")), (P41, (PySem.Str.ofString "_law_room_refuses" ++ PySem.Str.ofString ".<locals>." ++ "<lambda>"))]⟩
  have e := hfa.symm.trans (PySem.W.mg_of X G a42)
  cases e
  have g_BadPart := PySem.W.mg_of X G aC_BadPart
  have h_BadPart := clsAt_of aC_BadPart
  subst h_BadPart
  have g_BadNumber := PySem.W.mg_of X G aC_BadNumber
  have h_BadNumber := clsAt_of aC_BadNumber
  subst h_BadNumber
  have g_BadIndex := PySem.W.mg_of X G aC_BadIndex
  have h_BadIndex := clsAt_of aC_BadIndex
  subst h_BadIndex
  have T_BadPart : PySem.ErrBadPart.LowTxt K mg (clsAt K "BadPart") I_BadPart := { gC := g_BadPart, cls := ⟨_, _, _, _, _, _, _, _, _, _, _, _, _, _, _, xC_BadPart, by rfl⟩, sa := saC_BadPart, ga := gaC_BadPart, gg := ggC_BadPart, noN := nbC_BadPart, iC := iC_BadPart, tC := tiC_BadPart, kC := kC_BadPart, exC := eC_BadPart, tyC := tyC_BadPart, hdC := hdC_BadPart, te := exm_cc eC_BadPart icC_BadPart tyC_BadPart su_BadPart_BadPart, fn := ⟨_, _, _, _, _, _, _, _, _, _, _, _, _, _, lC_BadPart, cC_BadPart⟩ }
  have T_BadNumber : PySem.ErrBadNumber.LowTxt K mg (clsAt K "BadNumber") I_BadNumber := { gC := g_BadNumber, cls := ⟨_, _, _, _, _, _, _, _, _, _, _, _, _, _, _, xC_BadNumber, by rfl⟩, sa := saC_BadNumber, ga := gaC_BadNumber, gg := ggC_BadNumber, noN := nbC_BadNumber, iC := iC_BadNumber, tC := tiC_BadNumber, kC := kC_BadNumber, exC := eC_BadNumber, tyC := tyC_BadNumber, hdC := hdC_BadNumber, te := exm_cc eC_BadNumber icC_BadNumber tyC_BadNumber su_BadNumber_BadNumber, fn := ⟨_, _, _, _, _, _, _, _, _, _, _, _, _, _, lC_BadNumber, cC_BadNumber⟩ }
  have T_BadIndex : PySem.ErrBadIndex.LowTxt K mg (clsAt K "BadIndex") I_BadIndex := { gC := g_BadIndex, cls := ⟨_, _, _, _, _, _, _, _, _, _, _, _, _, _, _, xC_BadIndex, by rfl⟩, sa := saC_BadIndex, ga := gaC_BadIndex, gg := ggC_BadIndex, noN := nbC_BadIndex, iC := iC_BadIndex, tC := tiC_BadIndex, kC := kC_BadIndex, exC := eC_BadIndex, tyC := tyC_BadIndex, hdC := hdC_BadIndex, te := exm_cc eC_BadIndex icC_BadIndex tyC_BadIndex su_BadIndex_BadIndex, fn := ⟨_, _, _, _, _, _, _, _, _, _, _, _, _, _, lC_BadIndex, cC_BadIndex⟩ }
  have ex_BadPart_BadPart : PySem.W.exmOne K (.ref (clsAt K "BadPart")) (.ref (clsAt K "BadPart")) = some (decide (("BadPart" : Str) = "BadPart")) := (exm_cc eC_BadPart icC_BadPart tyC_BadPart su_BadPart_BadPart).trans (by decide +kernel)
  have ex_BadPart_BadNumber : PySem.W.exmOne K (.ref (clsAt K "BadPart")) (.ref (clsAt K "BadNumber")) = some (decide (("BadPart" : Str) = "BadNumber")) := (exm_cc eC_BadNumber icC_BadNumber tyC_BadNumber su_BadPart_BadNumber).trans (by decide +kernel)
  have ex_BadPart_BadIndex : PySem.W.exmOne K (.ref (clsAt K "BadPart")) (.ref (clsAt K "BadIndex")) = some (decide (("BadPart" : Str) = "BadIndex")) := (exm_cc eC_BadIndex icC_BadIndex tyC_BadIndex su_BadPart_BadIndex).trans (by decide +kernel)
  have ex_BadNumber_BadPart : PySem.W.exmOne K (.ref (clsAt K "BadNumber")) (.ref (clsAt K "BadPart")) = some (decide (("BadNumber" : Str) = "BadPart")) := (exm_cc eC_BadPart icC_BadPart tyC_BadPart su_BadNumber_BadPart).trans (by decide +kernel)
  have ex_BadNumber_BadNumber : PySem.W.exmOne K (.ref (clsAt K "BadNumber")) (.ref (clsAt K "BadNumber")) = some (decide (("BadNumber" : Str) = "BadNumber")) := (exm_cc eC_BadNumber icC_BadNumber tyC_BadNumber su_BadNumber_BadNumber).trans (by decide +kernel)
  have ex_BadNumber_BadIndex : PySem.W.exmOne K (.ref (clsAt K "BadNumber")) (.ref (clsAt K "BadIndex")) = some (decide (("BadNumber" : Str) = "BadIndex")) := (exm_cc eC_BadIndex icC_BadIndex tyC_BadIndex su_BadNumber_BadIndex).trans (by decide +kernel)
  have ex_BadIndex_BadPart : PySem.W.exmOne K (.ref (clsAt K "BadIndex")) (.ref (clsAt K "BadPart")) = some (decide (("BadIndex" : Str) = "BadPart")) := (exm_cc eC_BadPart icC_BadPart tyC_BadPart su_BadIndex_BadPart).trans (by decide +kernel)
  have ex_BadIndex_BadNumber : PySem.W.exmOne K (.ref (clsAt K "BadIndex")) (.ref (clsAt K "BadNumber")) = some (decide (("BadIndex" : Str) = "BadNumber")) := (exm_cc eC_BadNumber icC_BadNumber tyC_BadNumber su_BadIndex_BadNumber).trans (by decide +kernel)
  have ex_BadIndex_BadIndex : PySem.W.exmOne K (.ref (clsAt K "BadIndex")) (.ref (clsAt K "BadIndex")) = some (decide (("BadIndex" : Str) = "BadIndex")) := (exm_cc eC_BadIndex icC_BadIndex tyC_BadIndex su_BadIndex_BadIndex).trans (by decide +kernel)
  have EF__law_heard : ClsFacts K cs__law_heard := ⟨fun c hc c' hc' => by
    unfold cs__law_heard at hc hc'
    simp only [List.mem_cons, List.not_mem_nil, or_false] at hc hc'
    rcases hc with rfl | rfl | rfl <;> rcases hc' with rfl | rfl | rfl <;> first | exact ex_BadPart_BadPart | exact ex_BadPart_BadNumber | exact ex_BadPart_BadIndex | exact ex_BadNumber_BadPart | exact ex_BadNumber_BadNumber | exact ex_BadNumber_BadIndex | exact ex_BadIndex_BadPart | exact ex_BadIndex_BadNumber | exact ex_BadIndex_BadIndex⟩
  have F0 := fun_mk (st := (top 6)) l0 c0 k0
  have b0 := F0.binds (ps := ["value"]) fun _ _ _ _ _ _ us hl => match us, hl with | [_], _ => rfl
  have F1 := fun_mk (st := (top 7)) l1 c1 k1
  have b1 := F1.binds (ps := ["value", "low", "high"]) fun _ _ _ _ _ _ us hl => match us, hl with | [_, _, _], _ => rfl
  have F2 := fun_mk (st := (top 8)) l2 c2 k2
  have b2 := F2.binds (ps := ["value"]) fun _ _ _ _ _ _ us hl => match us, hl with | [_], _ => rfl
  have F3 := fun_mk (st := (top 9)) l3 c3 k3
  have b3 := F3.binds (ps := ["value"]) fun _ _ _ _ _ _ us hl => match us, hl with | [_], _ => rfl
  have F4 := fun_mk (st := (top 10)) l4 c4 k4
  have b4 := F4.binds (ps := ["value"]) fun _ _ _ _ _ _ us hl => match us, hl with | [_], _ => rfl
  have F5 := fun_mk (st := (top 12)) l5 c5 k5
  have b5 := F5.binds (ps := ["number"]) fun _ _ _ _ _ _ us hl => match us, hl with | [_], _ => rfl
  have F6 := fun_mk (st := (top 13)) l6 c6 k6
  have b6 := F6.binds (ps := ["number"]) fun _ _ _ _ _ _ us hl => match us, hl with | [_], _ => rfl
  have F7 := fun_mk (st := (top 14)) l7 c7 k7
  have b7 := F7.binds (ps := ["part", "minutes"]) fun _ _ _ _ _ _ us hl => match us, hl with | [_, _], _ => rfl
  have F8 := fun_mk (st := (top 16)) l8 c8 k8
  have b8 := F8.binds (ps := ["one", "other"]) fun _ _ _ _ _ _ us hl => match us, hl with | [_, _], _ => rfl
  have F9 := fun_mk (st := (top 17)) l9 c9 k9
  have b9 := F9.binds (ps := ["one", "other"]) fun _ _ _ _ _ _ us hl => match us, hl with | [_, _], _ => rfl
  have F10 := fun_mk (st := (top 18)) l10 c10 k10
  have b10 := F10.binds (ps := ["minute", "more"]) fun _ _ _ _ _ _ us hl => match us, hl with | [_, _], _ => rfl
  have F11 := fun_mk (st := (top 19)) l11 c11 k11
  have b11 := F11.binds (ps := ["minutes", "n"]) fun _ _ _ _ _ _ us hl => match us, hl with | [_, _], _ => rfl
  have F12 := fun_mk (st := (top 21)) l12 c12 k12
  have b12 := F12.binds (ps := ["moment", "more"]) fun _ _ _ _ _ _ us hl => match us, hl with | [_, _], _ => rfl
  have F13 := fun_mk (st := (top 22)) l13 c13 k13
  have b13 := F13.binds (ps := ["moments"]) fun _ _ _ _ _ _ us hl => match us, hl with | [_], _ => rfl
  have F14 := fun_mk (st := (top 23)) l14 c14 k14
  have b14 := F14.binds (ps := ["moments", "n"]) fun _ _ _ _ _ _ us hl => match us, hl with | [_, _], _ => rfl
  have F15 := fun_mk (st := (top 24)) l15 c15 k15
  have b15 := F15.binds (ps := ["moments", "n"]) fun _ _ _ _ _ _ us hl => match us, hl with | [_, _], _ => rfl
  have F16 := fun_mk (st := (top 26)) l16 c16 k16
  have b16 := F16.binds (ps := ["quorum", "arrivals"]) fun _ _ _ _ _ _ us hl => match us, hl with | [_, _], _ => rfl
  have F17 := fun_mk (st := (top 27)) l17 c17 k17
  have b17 := F17.binds (ps := ["lengths", "many"]) fun _ _ _ _ _ _ us hl => match us, hl with | [_, _], _ => rfl
  have F18 := fun_mk (st := (top 28)) l18 c18 k18
  have b18 := F18.binds (ps := ["notices", "many"]) fun _ _ _ _ _ _ us hl => match us, hl with | [_, _], _ => rfl
  have F19 := fun_mk (st := (top 29)) l19 c19 k19
  have b19 := F19.binds (ps := ["opens", "arrivals", "quorum"]) fun _ _ _ _ _ _ us hl => match us, hl with | [_, _, _], _ => rfl
  have F20 := fun_mk (st := (top 30)) l20 c20 k20
  have b20 := F20.binds (ps := ["begin", "length", "arrival"]) fun _ _ _ _ _ _ us hl => match us, hl with | [_, _, _], _ => rfl
  have F21 := fun_mk (st := (top 31)) l21 c21 k21
  have b21 := F21.binds (ps := ["opens", "length", "quorum", "arrivals"]) fun _ _ _ _ _ _ us hl => match us, hl with | [_, _, _, _], _ => rfl
  have F22 := fun_mk (st := (top 32)) l22 c22 k22
  have b22 := F22.binds (ps := ["arrival", "end_ahead", "turn"]) fun _ _ _ _ _ _ us hl => match us, hl with | [_, _, _], _ => rfl
  have F23 := fun_mk (st := (top 33)) l23 c23 k23
  have b23 := F23.binds (ps := ["begin", "n"]) fun _ _ _ _ _ _ us hl => match us, hl with | [_, _], _ => rfl
  have F24 := fun_mk (st := (top 34)) l24 c24 k24
  have b24 := F24.binds (ps := ["begin", "n", "notice", "behind"]) fun _ _ _ _ _ _ us hl => match us, hl with | [_, _, _, _], _ => rfl
  have F25 := fun_mk (st := (top 35)) l25 c25 k25
  have b25 := F25.binds (ps := ["arrivals", "lengths", "turn", "notices"]) fun _ _ _ _ _ _ us hl => match us, hl with | [_, _, _, _], _ => rfl
  have F26 := fun_mk (st := (top 37)) l26 c26 k26
  have b26 := F26.binds (ps := ["_law_script", "_law_k"]) fun _ _ _ _ _ _ us hl => match us, hl with | [_, _], _ => rfl
  have F27 := fun_mk (st := (top 38)) l27 c27 k27
  have b27 := F27.binds (ps := ["_law_source", "_law_top"]) fun _ _ _ _ _ _ us hl => match us, hl with | [_, _], _ => rfl
  have F28 := fun_mk (st := (top 39)) l28 c28 k28
  have b28 := F28.binds (ps := ["_law_source", "_law_things"]) fun _ _ _ _ _ _ us hl => match us, hl with | [_, _], _ => rfl
  have F29 := fun_mk (st := (top 40)) l29 c29 k29
  have b29 := F29.binds (ps := ["_law_script"]) fun _ _ _ _ _ _ us hl => match us, hl with | [_], _ => rfl
  have F30 := fun_mk (st := (top 42)) l30 c30 k30
  have b30 := F30.binds (ps := ["_law_moment_here"]) fun _ _ _ _ _ _ us hl => match us, hl with | [_], _ => rfl
  have F31 := fun_mk (st := (top 43)) l31 c31 k31
  have b31 := F31.binds (ps := ["_law_source", "_law_most"]) fun _ _ _ _ _ _ us hl => match us, hl with | [_, _], _ => rfl
  have F32 := fun_mk (st := (top 44)) l32 c32 k32
  have b32 := F32.binds (ps := ["_law_some"]) fun _ _ _ _ _ _ us hl => match us, hl with | [_], _ => rfl
  have F33 := fun_mk (st := (top 45)) l33 c33 k33
  have b33 := F33.binds (ps := ["_law_some", "_law_n"]) fun _ _ _ _ _ _ us hl => match us, hl with | [_, _], _ => rfl
  have F34 := fun_mk (st := (top 46)) l34 c34 k34
  have b34 := F34.binds (ps := ["_law_moment_here", "_law_minutes"]) fun _ _ _ _ _ _ us hl => match us, hl with | [_, _], _ => rfl
  have F35 := fun_mk (st := (top 47)) l35 c35 k35
  have b35 := F35.binds (ps := ["_law_some"]) fun _ _ _ _ _ _ us hl => match us, hl with | [_], _ => rfl
  have F36 := fun_mk (st := (top 48)) l36 c36 k36
  have b36 := F36.binds (ps := ["_law_some"]) fun _ _ _ _ _ _ us hl => match us, hl with | [_], _ => rfl
  have F37 := fun_mk (st := (top 49)) l37 c37 k37
  have b37 := F37.binds (ps := ["_law_arrivals_here", "_law_lengths_here", "_law_turn_here", "_law_notices_here"]) fun _ _ _ _ _ _ us hl => match us, hl with | [_, _, _, _], _ => rfl
  have F38 := fun_mk (st := (top 50)) l38 c38 k38
  have b38 := F38.binds (ps := ["_law_arrivals_here", "_law_opens_here", "_law_length_here", "_law_quorum_here"]) fun _ _ _ _ _ _ us hl => match us, hl with | [_, _, _, _], _ => rfl
  have F39 := fun_mk (st := (top 51)) l39 c39 k39
  have b39 := F39.binds (ps := ["_law_arrivals_here", "_law_lengths_here", "_law_turn_here", "_law_notices_here"]) fun _ _ _ _ _ _ us hl => match us, hl with | [_, _, _, _], _ => rfl
  have F40 := fun_mk (st := (top 52)) l40 c40 k40
  have b40 := F40.binds (ps := ["_law_source"]) fun _ _ _ _ _ _ us hl => match us, hl with | [_], _ => rfl
  have F41 := fun_mk (st := (top 53)) l41 c41 k41
  have b41 := F41.binds (ps := ["_law_source"]) fun _ _ _ _ _ _ us hl => match us, hl with | [_], _ => rfl
  have F42 := fun_mk (st := (top 54)) l42 c42 k42
  have b42 := F42.binds (ps := ["_law_script"]) fun _ _ _ _ _ _ us hl => match us, hl with | [_], _ => rfl
  have FH0 := fun_mk (st := (top 41)) lH0 cH0 kH0
  have bH0 := FH0.binds (ps := ["_law_call"]) fun _ _ _ _ _ _ us hl => match us, hl with | [_], _ => rfl
  have H__law_heard : HrdF K mg "_law_heard" (top 41) "_law_call" fH0 cdH0 := ⟨PySem.W.mg_of X G aH0, kH0, ⟨_, _, _, _, _, _, _, _, _, lH0, bH0⟩, cH0⟩
  have z_isinstance := PySem.W.mg_none_of X G Z_isinstance
  have z_int := PySem.W.mg_none_of X G Z_int
  have z_bool := PySem.W.mg_none_of X G Z_bool
  have z_list := PySem.W.mg_none_of X G Z_list
  have z_tuple := PySem.W.mg_none_of X G Z_tuple
  have z_all := PySem.W.mg_none_of X G Z_all
  have z_sorted := PySem.W.mg_none_of X G Z_sorted
  have z_len := PySem.W.mg_none_of X G Z_len
  have z_enumerate := PySem.W.mg_none_of X G Z_enumerate
  have z_max := PySem.W.mg_none_of X G Z_max
  have z_range := PySem.W.mg_none_of X G Z_range
  have z_min := PySem.W.mg_none_of X G Z_min
  have z_repr := PySem.W.mg_none_of X G Z_repr
  have hC : ∀ C, C ∈ ([] : List Str) → IsC K C := fun C hC => nomatch hC
  have K_int : IsK K [] .int (.type "int") := ⟨rfl, rfl, rfl, rfl, rfl, rfl, fun C hC => nomatch hC⟩
  have K_bool : IsK K [] .bool (.type "bool") := ⟨rfl, rfl, rfl, rfl, rfl, rfl, fun C hC => nomatch hC⟩
  have K_list : IsK K [] .list (.type "list") := ⟨rfl, rfl, rfl, rfl, rfl, rfl, fun C hC => nomatch hC⟩
  have K_tuple : IsK K [] .tuple (.type "tuple") := ⟨rfl, rfl, rfl, rfl, rfl, rfl, fun C hC => nomatch hC⟩
  refine ⟨PySem.W.fnOf "law" "law" (defArgs (top 54)) (defBody (top 54)) (defScope (top 54)) .none kV42 dc42 pm42 an42 cd42 ct42, [(cc40, P40), (cc41, P41)], spLaw K, ?_, ?_, ?_, fun s v => .of_eq rfl, ?_, fun base _ _ TB => ?_⟩
  · intro p hp; simp only [List.mem_cons, List.not_mem_nil, or_false] at hp
    rcases hp with rfl | rfl <;> first | exact th40.2 | exact th41.2
  · intro p hp; simp only [List.mem_cons, List.not_mem_nil, or_false] at hp
    rcases hp with rfl | rfl <;> first | exact n40 | exact n41
  · intro p hp; simp only [List.mem_cons, List.not_mem_nil, or_false] at hp
    rcases hp with rfl | rfl <;> first | exact th40.1 | exact th41.1
  · intro H a ns hl hT hS
    refine ⟨a, ns, fun P q m => ?_, rfl, hS, hl, fun _ => rfl⟩
    have m : (P, q) ∈ ([(P40, (PySem.Str.ofString "_law_meeting_refuses" ++ PySem.Str.ofString ".<locals>." ++ "<lambda>")), (P41, (PySem.Str.ofString "_law_room_refuses" ++ PySem.Str.ofString ".<locals>." ++ "<lambda>"))] : List (Addr × Str)) := m
    simp only [List.mem_cons, List.not_mem_nil, or_false] at m
    rcases m with m | m <;> (cases m; first | exact tabS_empty (hT (cc40, P40) (by simp)) | exact tabS_empty (hT (cc41, P41) (by simp)))
  have m40 : (P40, (PySem.Str.ofString "_law_meeting_refuses" ++ PySem.Str.ofString ".<locals>." ++ "<lambda>")) ∈ I1.T := by show _ ∈ ([(P40, (PySem.Str.ofString "_law_meeting_refuses" ++ PySem.Str.ofString ".<locals>." ++ "<lambda>")), (P41, (PySem.Str.ofString "_law_room_refuses" ++ PySem.Str.ofString ".<locals>." ++ "<lambda>"))] : List (Addr × Str)); simp
  have o40 : ∀ p ∈ I1.T, p.1 = P40 → p.2 = (PySem.Str.ofString "_law_meeting_refuses" ++ PySem.Str.ofString ".<locals>." ++ "<lambda>") := fun p hp hq => by
    have hp : p ∈ ([(P40, (PySem.Str.ofString "_law_meeting_refuses" ++ PySem.Str.ofString ".<locals>." ++ "<lambda>")), (P41, (PySem.Str.ofString "_law_room_refuses" ++ PySem.Str.ofString ".<locals>." ++ "<lambda>"))] : List (Addr × Str)) := hp
    simp only [List.mem_cons, List.not_mem_nil, or_false] at hp
    rcases hp with rfl | rfl <;> first | exact absurd hq (Ne.symm d40_41) | rfl
  have LT40 : LamT base mg (PySem.W.fnOf "_law_meeting_refuses" "_law_meeting_refuses" (defArgs (top 52)) (defBody (top 52)) (defScope (top 52)) .none kV40 dc40 pm40 an40 (.ref cc40) ct40) (PySem.Str.ofString "_law_meeting_refuses" ++ PySem.Str.ofString ".<locals>.") cc40 P40 := ⟨rfl, TB (cc40, P40) (by simp), m40, o40⟩
  have m41 : (P41, (PySem.Str.ofString "_law_room_refuses" ++ PySem.Str.ofString ".<locals>." ++ "<lambda>")) ∈ I1.T := by show _ ∈ ([(P40, (PySem.Str.ofString "_law_meeting_refuses" ++ PySem.Str.ofString ".<locals>." ++ "<lambda>")), (P41, (PySem.Str.ofString "_law_room_refuses" ++ PySem.Str.ofString ".<locals>." ++ "<lambda>"))] : List (Addr × Str)); simp
  have o41 : ∀ p ∈ I1.T, p.1 = P41 → p.2 = (PySem.Str.ofString "_law_room_refuses" ++ PySem.Str.ofString ".<locals>." ++ "<lambda>") := fun p hp hq => by
    have hp : p ∈ ([(P40, (PySem.Str.ofString "_law_meeting_refuses" ++ PySem.Str.ofString ".<locals>." ++ "<lambda>")), (P41, (PySem.Str.ofString "_law_room_refuses" ++ PySem.Str.ofString ".<locals>." ++ "<lambda>"))] : List (Addr × Str)) := hp
    simp only [List.mem_cons, List.not_mem_nil, or_false] at hp
    rcases hp with rfl | rfl <;> first | exact absurd hq d40_41 | rfl
  have LT41 : LamT base mg (PySem.W.fnOf "_law_room_refuses" "_law_room_refuses" (defArgs (top 53)) (defBody (top 53)) (defScope (top 53)) .none kV41 dc41 pm41 an41 (.ref cc41) ct41) (PySem.Str.ofString "_law_room_refuses" ++ PySem.Str.ofString ".<locals>.") cc41 P41 := ⟨rfl, TB (cc41, P41) (by simp), m41, o41⟩
  have FF_is_whole : @FnF I1 ⟨False⟩ l.prog w K mg base 1 "is_whole" f_is_whole := by letI I2 : GdW := ⟨False⟩; exact fnF_mk (by decide) (PySem.W.mg_of X G a0) k0 (ok_is_whole (P := l.prog) (w := w) (mg := mg) (base := base) F0 (z_isinstance := z_isinstance) (z_int := z_int) (z_bool := z_bool) (hC := hC) (K_int := K_int) (K_bool := K_bool)) b0
  have FU_is_whole : @FnF I1 ⟨True⟩ l.prog w K mg base 1 "is_whole" f_is_whole := by letI I2 : GdW := ⟨True⟩; exact fnF_mk (by decide) (PySem.W.mg_of X G a0) k0 (ok_is_whole (P := l.prog) (w := w) (mg := mg) (base := base) F0 (z_isinstance := z_isinstance) (z_int := z_int) (z_bool := z_bool) (hC := hC) (K_int := K_int) (K_bool := K_bool)) b0
  have FF_is_between : @FnF I1 ⟨False⟩ l.prog w K mg base 2 "is_between" f_is_between := by letI I2 : GdW := ⟨False⟩; exact fnF_mk (by decide) (PySem.W.mg_of X G a1) k1 (ok_is_between (P := l.prog) (w := w) (mg := mg) (base := base) F1 (F_is_whole := FF_is_whole)) b1
  have FU_is_between : @FnF I1 ⟨True⟩ l.prog w K mg base 2 "is_between" f_is_between := by letI I2 : GdW := ⟨True⟩; exact fnF_mk (by decide) (PySem.W.mg_of X G a1) k1 (ok_is_between (P := l.prog) (w := w) (mg := mg) (base := base) F1 (F_is_whole := FU_is_whole)) b1
  have FF_is_count : @FnF I1 ⟨False⟩ l.prog w K mg base 2 "is_count" f_is_count := by letI I2 : GdW := ⟨False⟩; exact fnF_mk (by decide) (PySem.W.mg_of X G a2) k2 (ok_is_count (P := l.prog) (w := w) (mg := mg) (base := base) F2 (F_is_whole := FF_is_whole)) b2
  have FU_is_count : @FnF I1 ⟨True⟩ l.prog w K mg base 2 "is_count" f_is_count := by letI I2 : GdW := ⟨True⟩; exact fnF_mk (by decide) (PySem.W.mg_of X G a2) k2 (ok_is_count (P := l.prog) (w := w) (mg := mg) (base := base) F2 (F_is_whole := FU_is_whole)) b2
  have FF_is_count_or_never : @FnF I1 ⟨False⟩ l.prog w K mg base 3 "is_count_or_never" f_is_count_or_never := by letI I2 : GdW := ⟨False⟩; exact fnF_mk (by decide) (PySem.W.mg_of X G a3) k3 (ok_is_count_or_never (P := l.prog) (w := w) (mg := mg) (base := base) F3 (F_is_count := FF_is_count)) b3
  have FU_is_count_or_never : @FnF I1 ⟨True⟩ l.prog w K mg base 3 "is_count_or_never" f_is_count_or_never := by letI I2 : GdW := ⟨True⟩; exact fnF_mk (by decide) (PySem.W.mg_of X G a3) k3 (ok_is_count_or_never (P := l.prog) (w := w) (mg := mg) (base := base) F3 (F_is_count := FU_is_count)) b3
  have FF_is_listed : @FnF I1 ⟨False⟩ l.prog w K mg base 1 "is_listed" f_is_listed := by letI I2 : GdW := ⟨False⟩; exact fnF_mk (by decide) (PySem.W.mg_of X G a4) k4 (ok_is_listed (P := l.prog) (w := w) (mg := mg) (base := base) F4 (z_isinstance := z_isinstance) (z_list := z_list) (z_tuple := z_tuple) (hC := hC) (K_list := K_list) (K_tuple := K_tuple)) b4
  have FU_is_listed : @FnF I1 ⟨True⟩ l.prog w K mg base 1 "is_listed" f_is_listed := by letI I2 : GdW := ⟨True⟩; exact fnF_mk (by decide) (PySem.W.mg_of X G a4) k4 (ok_is_listed (P := l.prog) (w := w) (mg := mg) (base := base) F4 (z_isinstance := z_isinstance) (z_list := z_list) (z_tuple := z_tuple) (hC := hC) (K_list := K_list) (K_tuple := K_tuple)) b4
  have FF_need_count : @FnF I1 ⟨False⟩ l.prog w K mg base 3 "need_count" f_need_count := by letI I2 : GdW := ⟨False⟩; exact fnF_mk (by decide) (PySem.W.mg_of X G a5) k5 (ok_need_count (P := l.prog) (w := w) (mg := mg) (base := base) F5 (F_is_count := FF_is_count) (T_BadNumber := T_BadNumber)) b5
  have FU_need_count : @FnF I1 ⟨True⟩ l.prog w K mg base 3 "need_count" f_need_count := by letI I2 : GdW := ⟨True⟩; exact fnF_mk (by decide) (PySem.W.mg_of X G a5) k5 (ok_need_count (P := l.prog) (w := w) (mg := mg) (base := base) F5 (F_is_count := FU_is_count) (T_BadNumber := T_BadNumber)) b5
  have FF_need_minute : @FnF I1 ⟨False⟩ l.prog w K mg base 4 "need_minute" f_need_minute := by letI I2 : GdW := ⟨False⟩; exact fnF_mk (by decide) (PySem.W.mg_of X G a6) k6 (ok_need_minute (P := l.prog) (w := w) (mg := mg) (base := base) F6 (F_is_count_or_never := FF_is_count_or_never) (T_BadNumber := T_BadNumber)) b6
  have FU_need_minute : @FnF I1 ⟨True⟩ l.prog w K mg base 4 "need_minute" f_need_minute := by letI I2 : GdW := ⟨True⟩; exact fnF_mk (by decide) (PySem.W.mg_of X G a6) k6 (ok_need_minute (P := l.prog) (w := w) (mg := mg) (base := base) F6 (F_is_count_or_never := FU_is_count_or_never) (T_BadNumber := T_BadNumber)) b6
  have FF_need_minutes : @FnF I1 ⟨False⟩ l.prog w K mg base 4 "need_minutes" f_need_minutes := by letI I2 : GdW := ⟨False⟩; exact fnF_mk (by decide) (PySem.W.mg_of X G a7) k7 (ok_need_minutes (P := l.prog) (w := w) (mg := mg) (base := base) F7 (F_is_listed := FF_is_listed) (F_is_count_or_never := FF_is_count_or_never) (T_BadPart := T_BadPart) (z_all := z_all)) b7
  have FU_need_minutes : @FnF I1 ⟨True⟩ l.prog w K mg base 4 "need_minutes" f_need_minutes := by letI I2 : GdW := ⟨True⟩; exact fnF_mk (by decide) (PySem.W.mg_of X G a7) k7 (ok_need_minutes (P := l.prog) (w := w) (mg := mg) (base := base) F7 (F_is_listed := FU_is_listed) (F_is_count_or_never := FU_is_count_or_never) (T_BadPart := T_BadPart) (z_all := z_all)) b7
  have FF_is_less : @FnF I1 ⟨False⟩ l.prog w K mg base 1 "is_less" f_is_less := by letI I2 : GdW := ⟨False⟩; exact fnF_mk (by decide) (PySem.W.mg_of X G a8) k8 (ok_is_less (P := l.prog) (w := w) (mg := mg) (base := base) F8 ) b8
  have FU_is_less : @FnF I1 ⟨True⟩ l.prog w K mg base 1 "is_less" f_is_less := by letI I2 : GdW := ⟨True⟩; exact fnF_mk (by decide) (PySem.W.mg_of X G a8) k8 (ok_is_less (P := l.prog) (w := w) (mg := mg) (base := base) F8 ) b8
  have FF_lesser : @FnF I1 ⟨False⟩ l.prog w K mg base 2 "lesser" f_lesser := by letI I2 : GdW := ⟨False⟩; exact fnF_mk (by decide) (PySem.W.mg_of X G a9) k9 (ok_lesser (P := l.prog) (w := w) (mg := mg) (base := base) F9 (F_is_less := FF_is_less)) b9
  have FU_lesser : @FnF I1 ⟨True⟩ l.prog w K mg base 2 "lesser" f_lesser := by letI I2 : GdW := ⟨True⟩; exact fnF_mk (by decide) (PySem.W.mg_of X G a9) k9 (ok_lesser (P := l.prog) (w := w) (mg := mg) (base := base) F9 (F_is_less := FU_is_less)) b9
  have FF_minutes_more : @FnF I1 ⟨False⟩ l.prog w K mg base 1 "minutes_more" f_minutes_more := by letI I2 : GdW := ⟨False⟩; exact fnF_mk (by decide) (PySem.W.mg_of X G a10) k10 (ok_minutes_more (P := l.prog) (w := w) (mg := mg) (base := base) F10 ) b10
  have FU_minutes_more : @FnF I1 ⟨True⟩ l.prog w K mg base 1 "minutes_more" f_minutes_more := by letI I2 : GdW := ⟨True⟩; exact fnF_mk (by decide) (PySem.W.mg_of X G a10) k10 (ok_minutes_more (P := l.prog) (w := w) (mg := mg) (base := base) F10 ) b10
  have FF_nth_least : @FnF I1 ⟨False⟩ l.prog w K mg base 1 "nth_least" f_nth_least := by letI I2 : GdW := ⟨False⟩; exact fnF_mk (by decide) (PySem.W.mg_of X G a11) k11 (ok_nth_least (P := l.prog) (w := w) (mg := mg) (base := base) F11 (z_sorted := z_sorted) (z_int := z_int) (z_len := z_len)) b11
  have FU_nth_least : @FnF I1 ⟨True⟩ l.prog w K mg base 1 "nth_least" f_nth_least := by letI I2 : GdW := ⟨True⟩; exact fnF_mk (by decide) (PySem.W.mg_of X G a11) k11 (ok_nth_least (P := l.prog) (w := w) (mg := mg) (base := base) F11 (z_sorted := z_sorted) (z_int := z_int) (z_len := z_len)) b11
  have FF_later_by : @FnF I1 ⟨False⟩ l.prog w K mg base 5 "later_by" f_later_by := by letI I2 : GdW := ⟨False⟩; exact fnF_mk (by decide) (PySem.W.mg_of X G a12) k12 (ok_later_by (P := l.prog) (w := w) (mg := mg) (base := base) F12 (F_need_minute := FF_need_minute) (F_need_count := FF_need_count) (F_minutes_more := FF_minutes_more)) b12
  have FU_later_by : @FnF I1 ⟨True⟩ l.prog w K mg base 5 "later_by" f_later_by := by letI I2 : GdW := ⟨True⟩; exact fnF_mk (by decide) (PySem.W.mg_of X G a12) k12 (ok_later_by (P := l.prog) (w := w) (mg := mg) (base := base) F12 (F_need_minute := FU_need_minute) (F_need_count := FU_need_count) (F_minutes_more := FU_minutes_more)) b12
  have FF_greatest : @FnF I1 ⟨False⟩ l.prog w K mg base 5 "greatest" f_greatest := by letI I2 : GdW := ⟨False⟩; exact fnF_mk (by decide) (PySem.W.mg_of X G a13) k13 (ok_greatest (P := l.prog) (w := w) (mg := mg) (base := base) F13 (F_need_minutes := FF_need_minutes) (F_nth_least := FF_nth_least) (z_len := z_len)) b13
  have FU_greatest : @FnF I1 ⟨True⟩ l.prog w K mg base 5 "greatest" f_greatest := by letI I2 : GdW := ⟨True⟩; exact fnF_mk (by decide) (PySem.W.mg_of X G a13) k13 (ok_greatest (P := l.prog) (w := w) (mg := mg) (base := base) F13 (F_need_minutes := FU_need_minutes) (F_nth_least := FU_nth_least) (z_len := z_len)) b13
  have FF_need_nth : @FnF I1 ⟨False⟩ l.prog w K mg base 5 "need_nth" f_need_nth := by letI I2 : GdW := ⟨False⟩; exact fnF_mk (by decide) (PySem.W.mg_of X G a14) k14 (ok_need_nth (P := l.prog) (w := w) (mg := mg) (base := base) F14 (F_need_minutes := FF_need_minutes) (F_is_whole := FF_is_whole) (T_BadNumber := T_BadNumber)) b14
  have FU_need_nth : @FnF I1 ⟨True⟩ l.prog w K mg base 5 "need_nth" f_need_nth := by letI I2 : GdW := ⟨True⟩; exact fnF_mk (by decide) (PySem.W.mg_of X G a14) k14 (ok_need_nth (P := l.prog) (w := w) (mg := mg) (base := base) F14 (F_need_minutes := FU_need_minutes) (F_is_whole := FU_is_whole) (T_BadNumber := T_BadNumber)) b14
  have FF_nth : @FnF I1 ⟨False⟩ l.prog w K mg base 6 "nth" f_nth := by letI I2 : GdW := ⟨False⟩; exact fnF_mk (by decide) (PySem.W.mg_of X G a15) k15 (ok_nth (P := l.prog) (w := w) (mg := mg) (base := base) F15 (F_need_nth := FF_need_nth) (F_nth_least := FF_nth_least)) b15
  have FU_nth : @FnF I1 ⟨True⟩ l.prog w K mg base 6 "nth" f_nth := by letI I2 : GdW := ⟨True⟩; exact fnF_mk (by decide) (PySem.W.mg_of X G a15) k15 (ok_nth (P := l.prog) (w := w) (mg := mg) (base := base) F15 (F_need_nth := FU_need_nth) (F_nth_least := FU_nth_least)) b15
  have FF_need_quorum : @FnF I1 ⟨False⟩ l.prog w K mg base 3 "need_quorum" f_need_quorum := by letI I2 : GdW := ⟨False⟩; exact fnF_mk (by decide) (PySem.W.mg_of X G a16) k16 (ok_need_quorum (P := l.prog) (w := w) (mg := mg) (base := base) F16 (F_is_between := FF_is_between) (T_BadNumber := T_BadNumber) (z_len := z_len)) b16
  have FU_need_quorum : @FnF I1 ⟨True⟩ l.prog w K mg base 3 "need_quorum" f_need_quorum := by letI I2 : GdW := ⟨True⟩; exact fnF_mk (by decide) (PySem.W.mg_of X G a16) k16 (ok_need_quorum (P := l.prog) (w := w) (mg := mg) (base := base) F16 (F_is_between := FU_is_between) (T_BadNumber := T_BadNumber) (z_len := z_len)) b16
  have FF_need_lengths : @FnF I1 ⟨False⟩ l.prog w K mg base 3 "need_lengths" f_need_lengths := by letI I2 : GdW := ⟨False⟩; exact fnF_mk (by decide) (PySem.W.mg_of X G a17) k17 (ok_need_lengths (P := l.prog) (w := w) (mg := mg) (base := base) F17 (F_is_listed := FF_is_listed) (F_is_count := FF_is_count) (T_BadPart := T_BadPart) (z_len := z_len) (z_all := z_all)) b17
  have FU_need_lengths : @FnF I1 ⟨True⟩ l.prog w K mg base 3 "need_lengths" f_need_lengths := by letI I2 : GdW := ⟨True⟩; exact fnF_mk (by decide) (PySem.W.mg_of X G a17) k17 (ok_need_lengths (P := l.prog) (w := w) (mg := mg) (base := base) F17 (F_is_listed := FU_is_listed) (F_is_count := FU_is_count) (T_BadPart := T_BadPart) (z_len := z_len) (z_all := z_all)) b17
  have FF_need_notices : @FnF I1 ⟨False⟩ l.prog w K mg base 3 "need_notices" f_need_notices := by letI I2 : GdW := ⟨False⟩; exact fnF_mk (by decide) (PySem.W.mg_of X G a18) k18 (ok_need_notices (P := l.prog) (w := w) (mg := mg) (base := base) F18 (F_is_listed := FF_is_listed) (F_is_count := FF_is_count) (T_BadPart := T_BadPart) (z_len := z_len) (z_all := z_all)) b18
  have FU_need_notices : @FnF I1 ⟨True⟩ l.prog w K mg base 3 "need_notices" f_need_notices := by letI I2 : GdW := ⟨True⟩; exact fnF_mk (by decide) (PySem.W.mg_of X G a18) k18 (ok_need_notices (P := l.prog) (w := w) (mg := mg) (base := base) F18 (F_is_listed := FU_is_listed) (F_is_count := FU_is_count) (T_BadPart := T_BadPart) (z_len := z_len) (z_all := z_all)) b18
  have FF_meeting_begin : @FnF I1 ⟨False⟩ l.prog w K mg base 7 "meeting_begin" f_meeting_begin := by letI I2 : GdW := ⟨False⟩; exact fnF_mk (by decide) (PySem.W.mg_of X G a19) k19 (ok_meeting_begin (P := l.prog) (w := w) (mg := mg) (base := base) F19 (F_need_count := FF_need_count) (F_need_minutes := FF_need_minutes) (F_need_quorum := FF_need_quorum) (F_greatest := FF_greatest) (F_nth := FF_nth)) b19
  have FU_meeting_begin : @FnF I1 ⟨True⟩ l.prog w K mg base 7 "meeting_begin" f_meeting_begin := by letI I2 : GdW := ⟨True⟩; exact fnF_mk (by decide) (PySem.W.mg_of X G a19) k19 (ok_meeting_begin (P := l.prog) (w := w) (mg := mg) (base := base) F19 (F_need_count := FU_need_count) (F_need_minutes := FU_need_minutes) (F_need_quorum := FU_need_quorum) (F_greatest := FU_greatest) (F_nth := FU_nth)) b19
  have FF_meeting_end : @FnF I1 ⟨False⟩ l.prog w K mg base 6 "meeting_end" f_meeting_end := by letI I2 : GdW := ⟨False⟩; exact fnF_mk (by decide) (PySem.W.mg_of X G a20) k20 (ok_meeting_end (P := l.prog) (w := w) (mg := mg) (base := base) F20 (F_need_minute := FF_need_minute) (F_need_count := FF_need_count) (F_greatest := FF_greatest) (F_later_by := FF_later_by)) b20
  have FU_meeting_end : @FnF I1 ⟨True⟩ l.prog w K mg base 6 "meeting_end" f_meeting_end := by letI I2 : GdW := ⟨True⟩; exact fnF_mk (by decide) (PySem.W.mg_of X G a20) k20 (ok_meeting_end (P := l.prog) (w := w) (mg := mg) (base := base) F20 (F_need_minute := FU_need_minute) (F_need_count := FU_need_count) (F_greatest := FU_greatest) (F_later_by := FU_later_by)) b20
  have FF_meeting_row : @FnF I1 ⟨False⟩ l.prog w K mg base 8 "meeting_row" f_meeting_row := by letI I2 : GdW := ⟨False⟩; exact fnF_mk (by decide) (PySem.W.mg_of X G a21) k21 (ok_meeting_row (P := l.prog) (w := w) (mg := mg) (base := base) F21 (F_need_count := FF_need_count) (F_meeting_begin := FF_meeting_begin) (F_meeting_end := FF_meeting_end)) b21
  have FU_meeting_row : @FnF I1 ⟨True⟩ l.prog w K mg base 8 "meeting_row" f_meeting_row := by letI I2 : GdW := ⟨True⟩; exact fnF_mk (by decide) (PySem.W.mg_of X G a21) k21 (ok_meeting_row (P := l.prog) (w := w) (mg := mg) (base := base) F21 (F_need_count := FU_need_count) (F_meeting_begin := FU_meeting_begin) (F_meeting_end := FU_meeting_end)) b21
  have FF_room_begin : @FnF I1 ⟨False⟩ l.prog w K mg base 6 "room_begin" f_room_begin := by letI I2 : GdW := ⟨False⟩; exact fnF_mk (by decide) (PySem.W.mg_of X G a22) k22 (ok_room_begin (P := l.prog) (w := w) (mg := mg) (base := base) F22 (F_need_minute := FF_need_minute) (F_need_count := FF_need_count) (F_greatest := FF_greatest) (F_later_by := FF_later_by)) b22
  have FU_room_begin : @FnF I1 ⟨True⟩ l.prog w K mg base 6 "room_begin" f_room_begin := by letI I2 : GdW := ⟨True⟩; exact fnF_mk (by decide) (PySem.W.mg_of X G a22) k22 (ok_room_begin (P := l.prog) (w := w) (mg := mg) (base := base) F22 (F_need_minute := FU_need_minute) (F_need_count := FU_need_count) (F_greatest := FU_greatest) (F_later_by := FU_later_by)) b22
  have FF_room_end : @FnF I1 ⟨False⟩ l.prog w K mg base 6 "room_end" f_room_end := by letI I2 : GdW := ⟨False⟩; exact fnF_mk (by decide) (PySem.W.mg_of X G a23) k23 (ok_room_end (P := l.prog) (w := w) (mg := mg) (base := base) F23 (F_need_minute := FF_need_minute) (F_need_count := FF_need_count) (F_later_by := FF_later_by)) b23
  have FU_room_end : @FnF I1 ⟨True⟩ l.prog w K mg base 6 "room_end" f_room_end := by letI I2 : GdW := ⟨True⟩; exact fnF_mk (by decide) (PySem.W.mg_of X G a23) k23 (ok_room_end (P := l.prog) (w := w) (mg := mg) (base := base) F23 (F_need_minute := FU_need_minute) (F_need_count := FU_need_count) (F_later_by := FU_later_by)) b23
  have FF_guest_end : @FnF I1 ⟨False⟩ l.prog w K mg base 6 "guest_end" f_guest_end := by letI I2 : GdW := ⟨False⟩; exact fnF_mk (by decide) (PySem.W.mg_of X G a24) k24 (ok_guest_end (P := l.prog) (w := w) (mg := mg) (base := base) F24 (F_need_minute := FF_need_minute) (F_need_count := FF_need_count) (F_lesser := FF_lesser) (F_later_by := FF_later_by) (F_greatest := FF_greatest)) b24
  have FU_guest_end : @FnF I1 ⟨True⟩ l.prog w K mg base 6 "guest_end" f_guest_end := by letI I2 : GdW := ⟨True⟩; exact fnF_mk (by decide) (PySem.W.mg_of X G a24) k24 (ok_guest_end (P := l.prog) (w := w) (mg := mg) (base := base) F24 (F_need_minute := FU_need_minute) (F_need_count := FU_need_count) (F_lesser := FU_lesser) (F_later_by := FU_later_by) (F_greatest := FU_greatest)) b24
  have FF_room_row : @FnF I1 ⟨False⟩ l.prog w K mg base 7 "room_row" f_room_row := by letI I2 : GdW := ⟨False⟩; exact fnF_mk (by decide) (PySem.W.mg_of X G a25) k25 (ok_room_row (P := l.prog) (w := w) (mg := mg) (base := base) F25 (F_need_minutes := FF_need_minutes) (F_need_lengths := FF_need_lengths) (F_need_count := FF_need_count) (F_need_notices := FF_need_notices) (F_room_begin := FF_room_begin) (F_room_end := FF_room_end) (F_guest_end := FF_guest_end) (z_len := z_len) (z_enumerate := z_enumerate)) b25
  have FU_room_row : @FnF I1 ⟨True⟩ l.prog w K mg base 7 "room_row" f_room_row := by letI I2 : GdW := ⟨True⟩; exact fnF_mk (by decide) (PySem.W.mg_of X G a25) k25 (ok_room_row (P := l.prog) (w := w) (mg := mg) (base := base) F25 (F_need_minutes := FU_need_minutes) (F_need_lengths := FU_need_lengths) (F_need_count := FU_need_count) (F_need_notices := FU_need_notices) (F_room_begin := FU_room_begin) (F_room_end := FU_room_end) (F_guest_end := FU_guest_end) (z_len := z_len) (z_enumerate := z_enumerate)) b25
  have FU__law_pool : @FrF I1 ⟨True⟩ l.prog w K mg base 1 "_law_pool" f__law_pool := by letI I2 : GdW := ⟨True⟩; exact frF_mk (by decide) (PySem.W.mg_of X G a26) k26 (ok__law_pool (P := l.prog) (w := w) (mg := mg) (base := base) F26 (z_len := z_len) (z_max := z_max) (z_int := z_int)) b26
  have FU__law_take : @FnF I1 ⟨True⟩ l.prog w K mg base 1 "_law_take" f__law_take := by letI I2 : GdW := ⟨True⟩; exact fnF_mk (by decide) (PySem.W.mg_of X G a27) k27 (ok__law_take (P := l.prog) (w := w) (mg := mg) (base := base) F27 (z_int := z_int)) b27
  have FU__law_one : @FnF I1 ⟨True⟩ l.prog w K mg base 2 "_law_one" f__law_one := by letI I2 : GdW := ⟨True⟩; exact fnF_mk (by decide) (PySem.W.mg_of X G a28) k28 (ok__law_one (P := l.prog) (w := w) (mg := mg) (base := base) F28 (F__law_take := FU__law_take) (z_len := z_len)) b28
  have FU__law_rounds : @FnF I1 ⟨True⟩ l.prog w K mg base 1 "_law_rounds" f__law_rounds := by letI I2 : GdW := ⟨True⟩; exact fnF_mk (by decide) (PySem.W.mg_of X G a29) k29 (ok__law_rounds (P := l.prog) (w := w) (mg := mg) (base := base) F29 (z_list := z_list) (z_range := z_range) (z_max := z_max) (z_min := z_min) (z_len := z_len)) b29
  have FU__law_rank : @FnF I1 ⟨True⟩ l.prog w K mg base 1 "_law_rank" f__law_rank := by letI I2 : GdW := ⟨True⟩; exact fnF_mk (by decide) (PySem.W.mg_of X G a30) k30 (ok__law_rank (P := l.prog) (w := w) (mg := mg) (base := base) F30 (z_int := z_int)) b30
  have FU__law_moment : @FnF I1 ⟨True⟩ l.prog w K mg base 2 "_law_moment" f__law_moment := by letI I2 : GdW := ⟨True⟩; exact fnF_mk (by decide) (PySem.W.mg_of X G a31) k31 (ok__law_moment (P := l.prog) (w := w) (mg := mg) (base := base) F31 (F__law_take := FU__law_take)) b31
  have FU__law_sorted : @FnF I1 ⟨True⟩ l.prog w K mg base 2 "_law_sorted" f__law_sorted := by letI I2 : GdW := ⟨True⟩; exact fnF_mk (by decide) (PySem.W.mg_of X G a32) k32 (ok__law_sorted (P := l.prog) (w := w) (mg := mg) (base := base) F32 (F__law_rank := FU__law_rank) (z_sorted := z_sorted) (z_int := z_int)) b32
  have FU__law_so_many_th : @FnF I1 ⟨True⟩ l.prog w K mg base 3 "_law_so_many_th" f__law_so_many_th := by letI I2 : GdW := ⟨True⟩; exact fnF_mk (by decide) (PySem.W.mg_of X G a33) k33 (ok__law_so_many_th (P := l.prog) (w := w) (mg := mg) (base := base) F33 (F__law_sorted := FU__law_sorted) (z_len := z_len)) b33
  have FU__law_more : @FnF I1 ⟨True⟩ l.prog w K mg base 1 "_law_more" f__law_more := by letI I2 : GdW := ⟨True⟩; exact fnF_mk (by decide) (PySem.W.mg_of X G a34) k34 (ok__law_more (P := l.prog) (w := w) (mg := mg) (base := base) F34 ) b34
  have FU__law_max : @FnF I1 ⟨True⟩ l.prog w K mg base 3 "_law_max" f__law_max := by letI I2 : GdW := ⟨True⟩; exact fnF_mk (by decide) (PySem.W.mg_of X G a35) k35 (ok__law_max (P := l.prog) (w := w) (mg := mg) (base := base) F35 (F__law_sorted := FU__law_sorted) (z_list := z_list)) b35
  have FU__law_min : @FnF I1 ⟨True⟩ l.prog w K mg base 3 "_law_min" f__law_min := by letI I2 : GdW := ⟨True⟩; exact fnF_mk (by decide) (PySem.W.mg_of X G a36) k36 (ok__law_min (P := l.prog) (w := w) (mg := mg) (base := base) F36 (F__law_sorted := FU__law_sorted) (z_list := z_list)) b36
  have FU__law_room : @FnF I1 ⟨True⟩ l.prog w K mg base 4 "_law_room" f__law_room := by letI I2 : GdW := ⟨True⟩; exact fnF_mk (by decide) (PySem.W.mg_of X G a37) k37 (ok__law_room (P := l.prog) (w := w) (mg := mg) (base := base) F37 (F__law_max := FU__law_max) (F__law_more := FU__law_more) (F__law_min := FU__law_min) (z_enumerate := z_enumerate) (z_len := z_len)) b37
  have FU__law_meeting_right : @FnF I1 ⟨True⟩ l.prog w K mg base 9 "_law_meeting_right" f__law_meeting_right := by letI I2 : GdW := ⟨True⟩; exact fnF_mk (by decide) (PySem.W.mg_of X G a38) k38 (ok__law_meeting_right (P := l.prog) (w := w) (mg := mg) (base := base) F38 (F__law_max := FU__law_max) (F__law_so_many_th := FU__law_so_many_th) (F__law_more := FU__law_more) (F_meeting_row := FU_meeting_row) (F_meeting_begin := FU_meeting_begin) (F_meeting_end := FU_meeting_end) (z_tuple := z_tuple)) b38
  have FU__law_room_right : @FnF I1 ⟨True⟩ l.prog w K mg base 8 "_law_room_right" f__law_room_right := by letI I2 : GdW := ⟨True⟩; exact fnF_mk (by decide) (PySem.W.mg_of X G a39) k39 (ok__law_room_right (P := l.prog) (w := w) (mg := mg) (base := base) F39 (F__law_room := FU__law_room) (F_room_row := FU_room_row) (F_room_begin := FU_room_begin) (F_room_end := FU_room_end) (F_guest_end := FU_guest_end) (z_tuple := z_tuple) (z_range := z_range) (z_len := z_len)) b39
  have FU__law_meeting_refuses : @FnF I1 ⟨True⟩ l.prog w K mg base 11 "_law_meeting_refuses" f__law_meeting_refuses := by letI I2 : GdW := ⟨True⟩; exact fnF_mk (by decide) (PySem.W.mg_of X G a40) k40 (ok__law_meeting_refuses (P := l.prog) (w := w) (mg := mg) (base := base) F40 (F__law_one := FU__law_one) (L_meeting_begin := FF_meeting_begin) (L_meeting_row := FF_meeting_row) (L_meeting_end := FF_meeting_end) (hgd := trivial) (T_BadPart := T_BadPart) (T_BadNumber := T_BadNumber) (T_BadIndex := T_BadIndex) (EF__law_heard := EF__law_heard) (H__law_heard := H__law_heard) (LT := LT40) (z_repr := z_repr)) b40
  have FU__law_room_refuses : @FnF I1 ⟨True⟩ l.prog w K mg base 10 "_law_room_refuses" f__law_room_refuses := by letI I2 : GdW := ⟨True⟩; exact fnF_mk (by decide) (PySem.W.mg_of X G a41) k41 (ok__law_room_refuses (P := l.prog) (w := w) (mg := mg) (base := base) F41 (F__law_one := FU__law_one) (L_room_begin := FF_room_begin) (L_room_end := FF_room_end) (L_guest_end := FF_guest_end) (L_room_row := FF_room_row) (hgd := trivial) (T_BadPart := T_BadPart) (T_BadNumber := T_BadNumber) (T_BadIndex := T_BadIndex) (EF__law_heard := EF__law_heard) (H__law_heard := H__law_heard) (LT := LT41) (z_repr := z_repr)) b41
  letI I2 : GdW := ⟨True⟩
  exact (ok_law (P := l.prog) (w := w) (mg := mg) (base := base) F42 (F__law_rounds := FU__law_rounds) (F__law_take := FU__law_take) (F__law_moment := FU__law_moment) (F__law_one := FU__law_one) (F__law_meeting_right := FU__law_meeting_right) (F__law_room_right := FU__law_room_right) (F__law_meeting_refuses := FU__law_meeting_refuses) (F__law_room_refuses := FU__law_room_refuses) (F_room_row := FU_room_row) (F__law_pool := FU__law_pool) (z_range := z_range) (z_len := z_len)).imp fun vs H Q E h => law_imp (fun ns hn => math ns hn) h
end Mp
open PySem PySem.W PyProof.Rows
theorem PySem.Challenge.cw_risingday_k14_meetings_and_rooms_holds : PySem.Challenge.rw_risingday_k14_meetings_and_rooms.Holds := by
  w_on; o_law; k_head; (case hw => w_witness2)
  k_fill
  letI I2 : Mp.GdW := ⟨True⟩
  refine Mp.walkG (l := PySem.Challenge.rw_risingday_k14_meetings_and_rooms) (n := 63) (k := 12) (x := "_law_script") rfl (by rw [sizeLine_eq]; decide) rfl ⟨⟨rfl, by decide, by decide⟩, fun _ => rfl⟩ (fun w h Y => by first | exact PySem.W.kIn_of Y | exact PySem.W.km_in_of Y) ?F
  case F =>
    intro w mg mb fa h s0 Gr Y KX G hmg
    refine' Mp.all_mk KX G hmg (Mp.tab_at (x := "_law_meeting_refuses") Gr KX ?r40 (Mp.tabIn_of ?a40 ?l40 rfl ?xc40 ?xp40)) (Mp.tab_at (x := "_law_room_refuses") Gr KX ?r41 (Mp.tabIn_of ?a41 ?l41 rfl ?xc41 ?xp41)) ?aC_BadPart ?xC_BadPart ?saC_BadPart ?gaC_BadPart ?ggC_BadPart ?nbC_BadPart ?iC_BadPart ?tiC_BadPart ?lC_BadPart ?cC_BadPart ?kC_BadPart ?eC_BadPart ?tyC_BadPart ?hdC_BadPart ?icC_BadPart ?aC_BadNumber ?xC_BadNumber ?saC_BadNumber ?gaC_BadNumber ?ggC_BadNumber ?nbC_BadNumber ?iC_BadNumber ?tiC_BadNumber ?lC_BadNumber ?cC_BadNumber ?kC_BadNumber ?eC_BadNumber ?tyC_BadNumber ?hdC_BadNumber ?icC_BadNumber ?aC_BadIndex ?xC_BadIndex ?saC_BadIndex ?gaC_BadIndex ?ggC_BadIndex ?nbC_BadIndex ?iC_BadIndex ?tiC_BadIndex ?lC_BadIndex ?cC_BadIndex ?kC_BadIndex ?eC_BadIndex ?tyC_BadIndex ?hdC_BadIndex ?icC_BadIndex ?su_BadPart_BadPart ?su_BadPart_BadNumber ?su_BadPart_BadIndex ?su_BadNumber_BadPart ?su_BadNumber_BadNumber ?su_BadNumber_BadIndex ?su_BadIndex_BadPart ?su_BadIndex_BadNumber ?su_BadIndex_BadIndex ?Z_isinstance ?Z_int ?Z_bool ?Z_list ?Z_tuple ?Z_all ?Z_sorted ?Z_len ?Z_enumerate ?Z_max ?Z_range ?Z_min ?Z_repr ?a0 ?l0 ?c0 ?k0 ?a1 ?l1 ?c1 ?k1 ?a2 ?l2 ?c2 ?k2 ?a3 ?l3 ?c3 ?k3 ?a4 ?l4 ?c4 ?k4 ?a5 ?l5 ?c5 ?k5 ?a6 ?l6 ?c6 ?k6 ?a7 ?l7 ?c7 ?k7 ?a8 ?l8 ?c8 ?k8 ?a9 ?l9 ?c9 ?k9 ?a10 ?l10 ?c10 ?k10 ?a11 ?l11 ?c11 ?k11 ?a12 ?l12 ?c12 ?k12 ?a13 ?l13 ?c13 ?k13 ?a14 ?l14 ?c14 ?k14 ?a15 ?l15 ?c15 ?k15 ?a16 ?l16 ?c16 ?k16 ?a17 ?l17 ?c17 ?k17 ?a18 ?l18 ?c18 ?k18 ?a19 ?l19 ?c19 ?k19 ?a20 ?l20 ?c20 ?k20 ?a21 ?l21 ?c21 ?k21 ?a22 ?l22 ?c22 ?k22 ?a23 ?l23 ?c23 ?k23 ?a24 ?l24 ?c24 ?k24 ?a25 ?l25 ?c25 ?k25 ?a26 ?l26 ?c26 ?k26 ?a27 ?l27 ?c27 ?k27 ?a28 ?l28 ?c28 ?k28 ?a29 ?l29 ?c29 ?k29 ?a30 ?l30 ?c30 ?k30 ?a31 ?l31 ?c31 ?k31 ?a32 ?l32 ?c32 ?k32 ?a33 ?l33 ?c33 ?k33 ?a34 ?l34 ?c34 ?k34 ?a35 ?l35 ?c35 ?k35 ?a36 ?l36 ?c36 ?k36 ?a37 ?l37 ?c37 ?k37 ?a38 ?l38 ?c38 ?k38 ?a39 ?l39 ?c39 ?k39 ?a40 ?l40 ?c40 ?k40 ?xc40 ?xp40 ?n40 ?a41 ?l41 ?c41 ?k41 ?xc41 ?xp41 ?n41 ?d40_41 ?a42 ?l42 ?c42 ?k42 ?aH0 ?lH0 ?cH0 ?kH0 Mp.math
    (case aC_BadPart => k_is)
    (case xC_BadPart => k_is)
    (case saC_BadPart => k_is)
    (case gaC_BadPart => k_is)
    (case ggC_BadPart => k_is)
    (case nbC_BadPart => k_is)
    (case iC_BadPart => k_is)
    (case tiC_BadPart => k_is)
    (case lC_BadPart => k_is)
    (case cC_BadPart => k_is)
    (case kC_BadPart => k_is)
    (case eC_BadPart => k_is)
    (case tyC_BadPart => k_is)
    (case hdC_BadPart => k_is)
    (case icC_BadPart => k_is)
    (case aC_BadNumber => k_is)
    (case xC_BadNumber => k_is)
    (case saC_BadNumber => k_is)
    (case gaC_BadNumber => k_is)
    (case ggC_BadNumber => k_is)
    (case nbC_BadNumber => k_is)
    (case iC_BadNumber => k_is)
    (case tiC_BadNumber => k_is)
    (case lC_BadNumber => k_is)
    (case cC_BadNumber => k_is)
    (case kC_BadNumber => k_is)
    (case eC_BadNumber => k_is)
    (case tyC_BadNumber => k_is)
    (case hdC_BadNumber => k_is)
    (case icC_BadNumber => k_is)
    (case aC_BadIndex => k_is)
    (case xC_BadIndex => k_is)
    (case saC_BadIndex => k_is)
    (case gaC_BadIndex => k_is)
    (case ggC_BadIndex => k_is)
    (case nbC_BadIndex => k_is)
    (case iC_BadIndex => k_is)
    (case tiC_BadIndex => k_is)
    (case lC_BadIndex => k_is)
    (case cC_BadIndex => k_is)
    (case kC_BadIndex => k_is)
    (case eC_BadIndex => k_is)
    (case tyC_BadIndex => k_is)
    (case hdC_BadIndex => k_is)
    (case icC_BadIndex => k_is)
    (case su_BadPart_BadPart => k_is)
    (case su_BadPart_BadNumber => k_is)
    (case su_BadPart_BadIndex => k_is)
    (case su_BadNumber_BadPart => k_is)
    (case su_BadNumber_BadNumber => k_is)
    (case su_BadNumber_BadIndex => k_is)
    (case su_BadIndex_BadPart => k_is)
    (case su_BadIndex_BadNumber => k_is)
    (case su_BadIndex_BadIndex => k_is)
    (case Z_isinstance => k_is)
    (case Z_int => k_is)
    (case Z_bool => k_is)
    (case Z_list => k_is)
    (case Z_tuple => k_is)
    (case Z_all => k_is)
    (case Z_sorted => k_is)
    (case Z_len => k_is)
    (case Z_enumerate => k_is)
    (case Z_max => k_is)
    (case Z_range => k_is)
    (case Z_min => k_is)
    (case Z_repr => k_is)
    (case a0 => k_is)
    (case l0 => k_is)
    (case c0 => k_is)
    (case k0 => k_is)
    (case a1 => k_is)
    (case l1 => k_is)
    (case c1 => k_is)
    (case k1 => k_is)
    (case a2 => k_is)
    (case l2 => k_is)
    (case c2 => k_is)
    (case k2 => k_is)
    (case a3 => k_is)
    (case l3 => k_is)
    (case c3 => k_is)
    (case k3 => k_is)
    (case a4 => k_is)
    (case l4 => k_is)
    (case c4 => k_is)
    (case k4 => k_is)
    (case a5 => k_is)
    (case l5 => k_is)
    (case c5 => k_is)
    (case k5 => k_is)
    (case a6 => k_is)
    (case l6 => k_is)
    (case c6 => k_is)
    (case k6 => k_is)
    (case a7 => k_is)
    (case l7 => k_is)
    (case c7 => k_is)
    (case k7 => k_is)
    (case a8 => k_is)
    (case l8 => k_is)
    (case c8 => k_is)
    (case k8 => k_is)
    (case a9 => k_is)
    (case l9 => k_is)
    (case c9 => k_is)
    (case k9 => k_is)
    (case a10 => k_is)
    (case l10 => k_is)
    (case c10 => k_is)
    (case k10 => k_is)
    (case a11 => k_is)
    (case l11 => k_is)
    (case c11 => k_is)
    (case k11 => k_is)
    (case a12 => k_is)
    (case l12 => k_is)
    (case c12 => k_is)
    (case k12 => k_is)
    (case a13 => k_is)
    (case l13 => k_is)
    (case c13 => k_is)
    (case k13 => k_is)
    (case a14 => k_is)
    (case l14 => k_is)
    (case c14 => k_is)
    (case k14 => k_is)
    (case a15 => k_is)
    (case l15 => k_is)
    (case c15 => k_is)
    (case k15 => k_is)
    (case a16 => k_is)
    (case l16 => k_is)
    (case c16 => k_is)
    (case k16 => k_is)
    (case a17 => k_is)
    (case l17 => k_is)
    (case c17 => k_is)
    (case k17 => k_is)
    (case a18 => k_is)
    (case l18 => k_is)
    (case c18 => k_is)
    (case k18 => k_is)
    (case a19 => k_is)
    (case l19 => k_is)
    (case c19 => k_is)
    (case k19 => k_is)
    (case a20 => k_is)
    (case l20 => k_is)
    (case c20 => k_is)
    (case k20 => k_is)
    (case a21 => k_is)
    (case l21 => k_is)
    (case c21 => k_is)
    (case k21 => k_is)
    (case a22 => k_is)
    (case l22 => k_is)
    (case c22 => k_is)
    (case k22 => k_is)
    (case a23 => k_is)
    (case l23 => k_is)
    (case c23 => k_is)
    (case k23 => k_is)
    (case a24 => k_is)
    (case l24 => k_is)
    (case c24 => k_is)
    (case k24 => k_is)
    (case a25 => k_is)
    (case l25 => k_is)
    (case c25 => k_is)
    (case k25 => k_is)
    (case a26 => k_is)
    (case l26 => k_is)
    (case c26 => k_is)
    (case k26 => k_is)
    (case a27 => k_is)
    (case l27 => k_is)
    (case c27 => k_is)
    (case k27 => k_is)
    (case a28 => k_is)
    (case l28 => k_is)
    (case c28 => k_is)
    (case k28 => k_is)
    (case a29 => k_is)
    (case l29 => k_is)
    (case c29 => k_is)
    (case k29 => k_is)
    (case a30 => k_is)
    (case l30 => k_is)
    (case c30 => k_is)
    (case k30 => k_is)
    (case a31 => k_is)
    (case l31 => k_is)
    (case c31 => k_is)
    (case k31 => k_is)
    (case a32 => k_is)
    (case l32 => k_is)
    (case c32 => k_is)
    (case k32 => k_is)
    (case a33 => k_is)
    (case l33 => k_is)
    (case c33 => k_is)
    (case k33 => k_is)
    (case a34 => k_is)
    (case l34 => k_is)
    (case c34 => k_is)
    (case k34 => k_is)
    (case a35 => k_is)
    (case l35 => k_is)
    (case c35 => k_is)
    (case k35 => k_is)
    (case a36 => k_is)
    (case l36 => k_is)
    (case c36 => k_is)
    (case k36 => k_is)
    (case a37 => k_is)
    (case l37 => k_is)
    (case c37 => k_is)
    (case k37 => k_is)
    (case a38 => k_is)
    (case l38 => k_is)
    (case c38 => k_is)
    (case k38 => k_is)
    (case a39 => k_is)
    (case l39 => k_is)
    (case c39 => k_is)
    (case k39 => k_is)
    (case a40 => k_is)
    (case l40 => k_is)
    (case c40 => k_is)
    (case k40 => k_is)
    (case xc40 => k_is)
    (case xp40 => rfl)
    (case n40 => kernel_rfl)
    (case a41 => k_is)
    (case l41 => k_is)
    (case c41 => k_is)
    (case k41 => k_is)
    (case xc41 => k_is)
    (case xp41 => rfl)
    (case n41 => kernel_rfl)
    (case d40_41 => decide)
    (case a42 => k_is)
    (case l42 => k_is)
    (case c42 => k_is)
    (case k42 => k_is)
    (case aH0 => k_is)
    (case lH0 => k_is)
    (case cH0 => k_is)
    (case kH0 => k_is)
    (case r40 => rfl)
    (case r41 => rfl)
