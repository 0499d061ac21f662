import PyProof.Rows.All
import HandS.ForMost
import HandS.Wide
import HandS.Flow
import HandS.SortInts
import HandS.IsInst
import HandS.Deep
import HandS.Lambda
import HandS.ForExc
import HandS.CallSlots
import HandS.Words
import HandS.WordsExc
import HandS.Defaults
import Wide.All
import OpenK.AllK
import Wide.FinOn
import PyProof.ZipIter
import HandS.Zip0
import HandS.Zip
import HandS.Iter
import HandS.Walk
import HandS.TryOnly
import HandS.Style
import HandS.Conv
import HandS.TupLe
import PyProof.Rows.ListMul
import PyProof.Rows.SeqMore
import HandS.SlotsOwn
import HandS.Ends
import PyProof.EqAt
import PyProof.EqKinds
import PyProof.TupleCall
import Open.SpecLaws
import KE.OsGo
import HandS.ForSpec
import HandS.TryMany
import HandS.EndTab
import HandS.EndBits
import KE.KNest
import HandS.RaiseMore
import PyProof.ReprRoads
import PySem.Challenge.RW_risingday_k13_counters_desk_by_desk
set_option Elab.async false
set_option linter.all false
set_option maxRecDepth 100000
set_option maxHeartbeats 2000000
namespace Mp
open PySem L2
/-- a value as a tree: what is built once and not changed any more -/
inductive D where
  | non | bl (b : Bool) | int (i : Int) | str (s : Str)
  | lst (ds : List D) | tup (ds : List D)
  | obj (C : Str) (ns : List Str) (ds : List D)
  | raw (v : V)
abbrev AS := Addr → Prop
/-- where a class of the module stands -/
def clsAt (K : PySem.W.Frag) (x : Str) : Addr := match PySem.W.nsIn K mainGlobals x with
  | some (some (.ref a)) => a
  | _ => 0
theorem clsAt_of {K : PySem.W.Frag} {x : Str} {a : Addr} (h : PySem.W.nsIn K mainGlobals x = some (some (.ref a))) : clsAt K x = a := by unfold clsAt; rw [h]
/-- a list of the module's own top -/
def Wr (K : PySem.W.Frag) (a : Addr) (xs : List V) : Prop := ∃ (o : Obj) (its : Array Value) (n : Nat), K.lookup a = some o ∧ o.cls = .type "list" ∧ o.dict = none ∧ o.data = .seq its n ∧ its.size ≤ sizeLine ∧ Vals xs its.toList
def RdK (K : PySem.W.Frag) (H : Hp) (M : AS) (a : Addr) (xs : List V) : Prop := (¬ M a ∧ Rd H a (.lst xs)) ∨ Wr K a xs
mutual
/-- v shows d in H, by no address of M -/
def Rep (K : PySem.W.Frag) (H : Hp) (M : AS) : D → V → Prop
  | .non, v => v = .non
  | .bl b, v => v = .bl b
  | .int i, v => v = .int i
  | .str s, v => v = .str s
  | .raw w, v => v = w
  | .lst ds, v => ∃ a xs, v = .ref a ∧ RdK K H M a xs ∧ RepL K H M ds xs
  | .tup ds, v => ∃ a xs, v = .ref a ∧ ¬ M a ∧ Rd H a (.tup xs) ∧ RepL K H M ds xs
  | .obj C ns ds, v => ∃ a dx xs, v = .ref a ∧ ¬ M a ∧ H a = some (.ins (clsAt K C) dx (ns.zip xs)) ∧ ns.length = xs.length ∧ RepL K H M ds xs
def RepL (K : PySem.W.Frag) (H : Hp) (M : AS) : List D → List V → Prop
  | [], xs => xs = []
  | d :: ds, xs => ∃ x ys, xs = x :: ys ∧ Rep K H M d x ∧ RepL K H M ds ys
end
/-- the tables of code objects of the program's defs, with the names of their lambdas -/
class TabsW where
  T : List (Addr × Str)
/-- no table of code objects -/
def NT (o : HO) : Prop := ∀ ps, o ≠ .tbl ps
/-- neither a table nor a code object -/
structure Pl (o : HO) : Prop where
  nt : NT o
  nx : ∀ c q, o ≠ LamX.CodeO c q
theorem nt_lst {xs : List V} : NT (.lst xs) := fun _ z => by cases z
theorem nt_tup {xs : List V} : NT (.tup xs) := fun _ z => by cases z
theorem nt_ins {C : Addr} {d : Addr} {xs : List (Str × V)} : NT (.ins C d xs) := fun _ z => by cases z
theorem pl_lst {xs : List V} : Pl (.lst xs) := ⟨nt_lst, fun _ _ z => by unfold LamX.CodeO at z; cases z⟩
theorem pl_ins {C : Addr} {d : Addr} {xs : List (Str × V)} : Pl (.ins C d xs) := ⟨nt_ins, fun _ _ z => by unfold LamX.CodeO at z; cases z⟩
/-- something stands there that is no table of code objects -/
def Lv (H : Hp) (a : Addr) : Prop := ∃ o, H a = some o ∧ NT o
theorem Lv.ne {H : Hp} {a : Addr} (h : Lv H a) : H a ≠ none := fun z => by obtain ⟨o, e, _⟩ := h; rw [e] at z; cases z
theorem nn_of {H : Hp} {a : Addr} (h : H a = none) : ¬ Lv H a := fun z => z.ne h
theorem Lv.lst {H : Hp} {a : Addr} {xs : List V} (h : H a = some (.lst xs)) : Lv H a := ⟨_, h, nt_lst⟩
theorem Lv.ins {H : Hp} {a C d : Addr} {xs : List (Str × V)} (h : H a = some (.ins C d xs)) : Lv H a := ⟨_, h, nt_ins⟩
variable [TabsW]
/-- outside M all stands as it stood; tables of code objects may grow -/
structure Stp (M : AS) (H H' : Hp) : Prop where
  st : ∀ a o, H a = some o → ¬ M a → NT o → H' a = some o
  mo : ∀ a, Lv H a → Lv H' a
  tb : ∀ P q, (P, q) ∈ TabsW.T → LamX.TabS H P q → LamX.TabS H' P q
theorem Stp.refl {M : AS} {H : Hp} : Stp M H H := ⟨fun _ _ h _ _ => h, fun _ h => h, fun _ _ _ h => h⟩
theorem Stp.trans {M : AS} {H H1 H2 : Hp} (a : Stp M H H1) (b : Stp M H1 H2) : Stp M H H2 := ⟨fun x o h n t => b.st x o (a.st x o h n t) n t, fun x h => b.mo x (a.mo x h), fun P q m h => b.tb P q m (a.tb P q m h)⟩
theorem Stp.weak {M M' : AS} {H H' : Hp} (a : Stp M H H') (h : ∀ x, M x → M' x) : Stp M' H H' := ⟨fun x o e n t => a.st x o e (fun q => n (h x q)) t, a.mo, a.tb⟩
theorem mo_upd {H : Hp} {p : Addr} {o : HO} (ho : NT o) : ∀ a, Lv H a → Lv (upd H p o) a := fun a h => by
  by_cases e : a = p
  · rw [e]; exact ⟨o, upd_same, ho⟩
  · obtain ⟨u, h1, h2⟩ := h; exact ⟨u, by rw [upd_ne e]; exact h1, h2⟩
theorem mo_new {H : Hp} {p : Addr} {o : HO} (hp : H p = none) : ∀ a, Lv H a → Lv (upd H p o) a := fun a h => by
  obtain ⟨u, h1, h2⟩ := h; exact ⟨u, by rw [upd_ne (ne_of_none h1 hp)]; exact h1, h2⟩
theorem tab_upd {H : Hp} {p : Addr} {o : HO} (hp : ∀ u, H p = some u → Pl u) : ∀ P q, LamX.TabS H P q → LamX.TabS (upd H p o) P q := by
  rintro P q ⟨ps, h1, h2, h3⟩
  have n1 : P ≠ p := fun z => by subst z; exact (hp _ h1).nt ps rfl
  refine ⟨ps, by rw [upd_ne n1]; exact h1, h2, fun pos cv hc => ?_⟩
  obtain ⟨c, e1, e2⟩ := h3 pos cv hc
  have n2 : c ≠ p := fun z => by subst z; exact (hp _ e2).nx _ _ rfl
  exact ⟨c, e1, by rw [upd_ne n2]; exact e2⟩
theorem Stp.new {M : AS} {H : Hp} {p : Addr} {o : HO} (h : H p = none) : Stp M H (upd H p o) := ⟨fun a u e _ _ => by
  rw [upd_ne (ne_of_none e h)]
  exact e, mo_new h, fun P q _ => tab_upd (fun u z => by rw [h] at z; cases z) P q⟩
theorem Stp.set {M : AS} {H : Hp} {p : Addr} {o : HO} (h : M p) (hp : ∀ u, H p = some u → Pl u) (ho : NT o := by first | exact nt_lst | exact nt_ins | exact nt_tup) : Stp M H (upd H p o) := ⟨fun a u e n _ => by
  rw [upd_ne (fun z => n (by rw [z]; exact h))]
  exact e, mo_upd ho, fun P q _ => tab_upd hp P q⟩
/-- a list stands there -/
theorem pl_at {H : Hp} {p : Addr} {xs : List V} (h : H p = some (.lst xs)) : ∀ u, H p = some u → Pl u := fun u z => by rw [h] at z; cases z; exact pl_lst
theorem pl_ati {H : Hp} {p : Addr} {C : Addr} {d : Addr} {xs : List (Str × V)} (h : H p = some (.ins C d xs)) : ∀ u, H p = some u → Pl u := fun u z => by rw [h] at z; cases z; exact pl_ins
theorem Rd.stp {M : AS} {H H' : Hp} {a : Addr} {u : HO} (e : Stp M H H') (n : ¬ M a) (nu : NT u) (h : Rd H a u) : Rd H' a u := by
  rcases h with h | ⟨o, h⟩
  · exact .inl (e.st _ _ h n nu)
  · exact .inr ⟨o, e.st _ _ h n (fun _ z => by cases z)⟩
theorem Rd.ne {H : Hp} {a : Addr} {u : HO} (h : Rd H a u) (nu : NT u) : Lv H a := by
  rcases h with h | ⟨o, h⟩
  · exact ⟨u, h, nu⟩
  · exact ⟨_, h, fun _ z => by cases z⟩
theorem Rd.l {K : PySem.W.Frag} {H : Hp} {a : Addr} {xs : List V} (h : Rd H a (.lst xs)) : SqL K H a xs := .inl h
theorem Rd.t {K : PySem.W.Frag} {H : Hp} {a : Addr} {xs : List V} (h : Rd H a (.tup xs)) : SqT K H a xs := .inl h
section
variable {K : PySem.W.Frag} {H H' : Hp} {M M' : AS}
theorem RdK.l {a : Addr} {xs : List V} (h : RdK K H M a xs) : SqL K H a xs := h.elim (fun q => .inl q.2) .inr
theorem RdK.ofS {a : Addr} {xs : List V} (n : ¬ M a) (h : SqL K H a xs) : RdK K H M a xs := h.elim (fun q => .inl ⟨n, q⟩) .inr
theorem RdK.stp {a : Addr} {xs : List V} (e : Stp M H H') (m : ∀ x, M' x → M x) (h : RdK K H M a xs) : RdK K H' M' a xs := h.elim (fun q => .inl ⟨fun z => q.1 (m a z), Rd.stp e q.1 nt_lst q.2⟩) .inr
theorem RdK.grow {a : Addr} {xs : List V} (m : ∀ x, M' x → M x ∨ ¬ Lv H x) (h : RdK K H M a xs) : RdK K H M' a xs := h.elim (fun q => .inl ⟨fun z => (m a z).elim q.1 fun w => w (Rd.ne q.2 nt_lst), q.2⟩) .inr
mutual
theorem Rep.stp (e : Stp M H H') (m : ∀ x, M' x → M x) : ∀ (d : D) (v : V), Rep K H M d v → Rep K H' M' d v
  | .non, v, h => by unfold Rep at h ⊢; exact h
  | .bl b, v, h => by unfold Rep at h ⊢; exact h
  | .int i, v, h => by unfold Rep at h ⊢; exact h
  | .str s, v, h => by unfold Rep at h ⊢; exact h
  | .raw w, v, h => by unfold Rep at h ⊢; exact h
  | .lst ds, v, h => by
    unfold Rep at h ⊢
    obtain ⟨a, xs, rfl, q, r⟩ := h
    exact ⟨a, xs, rfl, q.stp e m, RepL.stp e m ds xs r⟩
  | .tup ds, v, h => by
    unfold Rep at h ⊢
    obtain ⟨a, xs, rfl, n, q, r⟩ := h
    exact ⟨a, xs, rfl, fun z => n (m a z), Rd.stp e n nt_tup q, RepL.stp e m ds xs r⟩
  | .obj C ns ds, v, h => by
    unfold Rep at h ⊢
    obtain ⟨a, dx, xs, rfl, n, q, z, r⟩ := h
    exact ⟨a, dx, xs, rfl, fun z => n (m a z), e.st _ _ q n nt_ins, z, RepL.stp e m ds xs r⟩
theorem RepL.stp (e : Stp M H H') (m : ∀ x, M' x → M x) : ∀ (ds : List D) (xs : List V), RepL K H M ds xs → RepL K H' M' ds xs
  | [], xs, h => by unfold RepL at h ⊢; exact h
  | d :: ds, xs, h => by
    unfold RepL at h ⊢
    obtain ⟨x, ys, rfl, r, q⟩ := h
    exact ⟨x, ys, rfl, Rep.stp e m d x r, RepL.stp e m ds ys q⟩
end
mutual
/-- other addresses may be set apart, if nothing stood there -/
theorem Rep.grow (m : ∀ x, M' x → M x ∨ ¬ Lv H x) : ∀ (d : D) (v : V), Rep K H M d v → Rep K H M' d v
  | .non, v, h => by unfold Rep at h ⊢; exact h
  | .bl b, v, h => by unfold Rep at h ⊢; exact h
  | .int i, v, h => by unfold Rep at h ⊢; exact h
  | .str s, v, h => by unfold Rep at h ⊢; exact h
  | .raw w, v, h => by unfold Rep at h ⊢; exact h
  | .lst ds, v, h => by
    unfold Rep at h ⊢
    obtain ⟨a, xs, rfl, q, r⟩ := h
    exact ⟨a, xs, rfl, q.grow m, RepL.grow m ds xs r⟩
  | .tup ds, v, h => by
    unfold Rep at h ⊢
    obtain ⟨a, xs, rfl, n, q, r⟩ := h
    exact ⟨a, xs, rfl, fun z => (m a z).elim n fun w => w (Rd.ne q nt_tup), q, RepL.grow m ds xs r⟩
  | .obj C ns ds, v, h => by
    unfold Rep at h ⊢
    obtain ⟨a, dx, xs, rfl, n, q, z, r⟩ := h
    exact ⟨a, dx, xs, rfl, fun z => (m a z).elim n fun w => w (Lv.ins q), q, z, RepL.grow m ds xs r⟩
theorem RepL.grow (m : ∀ x, M' x → M x ∨ ¬ Lv H x) : ∀ (ds : List D) (xs : List V), RepL K H M ds xs → RepL K H M' ds xs
  | [], xs, h => by unfold RepL at h ⊢; exact h
  | d :: ds, xs, h => by
    unfold RepL at h ⊢
    obtain ⟨x, ys, rfl, r, q⟩ := h
    exact ⟨x, ys, rfl, Rep.grow m d x r, RepL.grow m ds ys q⟩
end
theorem RepL.length : ∀ {ds : List D} {xs : List V}, RepL K H M ds xs → ds.length = xs.length
  | [], xs, h => by unfold RepL at h; subst h; rfl
  | d :: ds, xs, h => by
    unfold RepL at h
    obtain ⟨x, ys, rfl, r, q⟩ := h
    simp [RepL.length q]
theorem RepL.nil : RepL K H M [] [] := by unfold RepL; rfl
theorem RepL.cons {d : D} {ds : List D} {x : V} {xs : List V} (h : Rep K H M d x) (r : RepL K H M ds xs) : RepL K H M (d :: ds) (x :: xs) := by unfold RepL; exact ⟨x, xs, rfl, h, r⟩
theorem RepL.append : ∀ {ds es : List D} {xs ys : List V}, RepL K H M ds xs → RepL K H M es ys → RepL K H M (ds ++ es) (xs ++ ys)
  | [], es, xs, ys, h, r => by unfold RepL at h; subst h; exact r
  | d :: ds, es, xs, ys, h, r => by
    unfold RepL at h
    obtain ⟨x, zs, rfl, q, h⟩ := h
    exact RepL.cons q (RepL.append h r)
theorem RepL.get : ∀ {ds : List D} {xs : List V} {i : Nat} {d : D}, RepL K H M ds xs → ds[i]? = some d → ∃ x, xs[i]? = some x ∧ Rep K H M d x
  | [], xs, i, d, h, e => by simp at e
  | d :: ds, xs, 0, d', h, e => by
    unfold RepL at h
    obtain ⟨x, zs, rfl, q, h⟩ := h
    simp at e; subst e
    exact ⟨x, rfl, q⟩
  | d :: ds, xs, i + 1, d', h, e => by
    unfold RepL at h
    obtain ⟨x, zs, rfl, q, h⟩ := h
    obtain ⟨y, a, b⟩ := RepL.get (i := i) h (by simpa using e)
    exact ⟨y, by simpa using a, b⟩
theorem RepL.get' : ∀ {ds : List D} {xs : List V} {i : Nat} {x : V}, RepL K H M ds xs → xs[i]? = some x → ∃ d, ds[i]? = some d ∧ Rep K H M d x := fun {ds xs i x} h e => by
  have hl := h.length
  obtain ⟨hi, _⟩ := List.getElem?_eq_some_iff.mp e
  have : i < ds.length := by omega
  obtain ⟨y, a, b⟩ := h.get (List.getElem?_eq_getElem this)
  rw [e] at a; cases a
  exact ⟨_, List.getElem?_eq_getElem this, b⟩
theorem RepL.set : ∀ {ds : List D} {xs : List V} {i : Nat} {d : D} {x : V}, RepL K H M ds xs → Rep K H M d x → RepL K H M (ds.set i d) (xs.set i x)
  | [], xs, i, d, x, h, r => by unfold RepL at h; subst h; exact RepL.nil
  | e :: ds, xs, 0, d, x, h, r => by
    unfold RepL at h
    obtain ⟨y, zs, rfl, q, h⟩ := h
    exact RepL.cons r h
  | e :: ds, xs, i + 1, d, x, h, r => by
    unfold RepL at h
    obtain ⟨y, zs, rfl, q, h⟩ := h
    exact RepL.cons q (RepL.set h r)
theorem RepL.take : ∀ {ds : List D} {xs : List V} (n : Nat), RepL K H M ds xs → RepL K H M (ds.take n) (xs.take n)
  | _, _, 0, h => RepL.nil
  | [], xs, n + 1, h => by unfold RepL at h; subst h; exact RepL.nil
  | d :: ds, xs, n + 1, h => by
    unfold RepL at h
    obtain ⟨y, zs, rfl, q, h⟩ := h
    exact RepL.cons q (RepL.take n h)
theorem RepL.drop : ∀ {ds : List D} {xs : List V} (n : Nat), RepL K H M ds xs → RepL K H M (ds.drop n) (xs.drop n)
  | _, _, 0, h => h
  | [], xs, n + 1, h => by unfold RepL at h; subst h; exact RepL.nil
  | d :: ds, xs, n + 1, h => by
    unfold RepL at h
    obtain ⟨y, zs, rfl, q, h⟩ := h
    exact RepL.drop n h
/-- ints, and nothing else -/
theorem RepL.ints : ∀ {ns : List Int} {xs : List V}, RepL K H M (ns.map D.int) xs → xs = ns.map V.int
  | [], xs, h => by unfold RepL at h; exact h
  | n :: ns, xs, h => by
    rw [List.map_cons] at h
    unfold RepL at h
    obtain ⟨y, zs, rfl, q, h⟩ := h
    unfold Rep at q
    rw [q, RepL.ints h]; rfl
theorem RepL.of_ints : ∀ (ns : List Int), RepL K H M (ns.map D.int) (ns.map V.int)
  | [] => RepL.nil
  | n :: ns => RepL.cons (by unfold Rep; rfl) (RepL.of_ints ns)
theorem RepL.bools : ∀ {ns : List Bool} {xs : List V}, RepL K H M (ns.map D.bl) xs → xs = ns.map V.bl
  | [], xs, h => by unfold RepL at h; exact h
  | n :: ns, xs, h => by
    rw [List.map_cons] at h
    unfold RepL at h
    obtain ⟨y, zs, rfl, q, h⟩ := h
    unfold Rep at q
    rw [q, RepL.bools h]; rfl
end
def truD : D → Option Bool
  | .non => some false
  | .bl b => some b
  | .int i => some (i != 0)
  | .str s => if s.length ≤ 1000000 then some ((s.length : Int) != 0) else none
  | .lst ds => some (!ds.isEmpty)
  | .tup ds => some (!ds.isEmpty)
  | _ => none
mutual
def toPy : D → Option PyData
  | .non => some .none
  | .bl b => some (.bool b)
  | .int i => some (.int i)
  | .str s => some (.str s)
  | .lst ds => (toPys ds).map PyData.list
  | .tup ds => (toPys ds).map PyData.tuple
  | _ => none
def toPys : List D → Option (List PyData)
  | [] => some []
  | d :: ds => match toPy d, toPys ds with
    | some x, some xs => some (x :: xs)
    | _, _ => none
end
theorem truV_of {K : PySem.W.Frag} {H : Hp} {M : AS} {d : D} {v : V} {b : Bool} (r : Rep K H M d v) (t : truD d = some b) : TruV K v H b := by
  have hs : sizeLine = 16777216 := sizeLine_eq
  cases d with
  | non => unfold Rep at r; subst r; cases t; rfl
  | bl c => unfold Rep at r; subst r; cases t; rfl
  | int i => unfold Rep at r; subst r; cases t; rfl
  | str s =>
    unfold Rep at r; subst r
    have t' : (if s.length ≤ 1000000 then some ((s.length : Int) != 0) else none) = some b := t
    by_cases hl : s.length ≤ 1000000
    · rw [if_pos hl] at t'
      cases t'
      exact ⟨by omega, rfl⟩
    · rw [if_neg hl] at t'
      cases t'
  | lst ds =>
    unfold Rep at r
    obtain ⟨a, xs, rfl, q, z⟩ := r
    cases t
    refine .inl ⟨xs, q.l, ?_⟩
    have := z.length
    cases ds <;> cases xs <;> simp_all
  | tup ds =>
    unfold Rep at r
    obtain ⟨a, xs, rfl, _, q, z⟩ := r
    cases t
    refine .inr (.inl ⟨xs, Rd.t q, ?_⟩)
    have := z.length
    cases ds <;> cases xs <;> simp_all
  | obj C ns ds => cases t
  | raw w => cases t
section
variable {K : PySem.W.Frag} {H : Hp} {M : AS}
mutual
theorem dp_of : ∀ (d : D) (v : V) (p : PyData), Rep K H M d v → toPy d = some p → Dp K H v p
  | .non, v, p, r, t => by unfold Rep at r; unfold toPy at t; subst r; cases t; exact .non
  | .bl b, v, p, r, t => by unfold Rep at r; unfold toPy at t; subst r; cases t; exact .bl b
  | .int i, v, p, r, t => by unfold Rep at r; unfold toPy at t; subst r; cases t; exact .int i
  | .str s, v, p, r, t => by unfold Rep at r; unfold toPy at t; subst r; cases t; exact .str s
  | .lst ds, v, p, r, t => by
    unfold Rep at r; unfold toPy at t
    obtain ⟨a, xs, rfl, q, z⟩ := r
    cases e : toPys ds with
    | none => rw [e] at t; cases t
    | some ps =>
      rw [e] at t; cases t
      exact .lst q.l (dps_of ds xs ps z e)
  | .tup ds, v, p, r, t => by
    unfold Rep at r; unfold toPy at t
    obtain ⟨a, xs, rfl, _, q, z⟩ := r
    cases e : toPys ds with
    | none => rw [e] at t; cases t
    | some ps =>
      rw [e] at t; cases t
      exact .tup (Rd.t q) (dps_of ds xs ps z e)
  | .obj C ns ds, v, p, r, t => by unfold toPy at t; cases t
  | .raw w, v, p, r, t => by unfold toPy at t; cases t
theorem dps_of : ∀ (ds : List D) (xs : List V) (ps : List PyData), RepL K H M ds xs → toPys ds = some ps → DpAll K H xs ps
  | [], xs, ps, r, t => by unfold RepL at r; unfold toPys at t; subst r; cases t; exact .nil
  | d :: ds, xs, ps, r, t => by
    unfold RepL at r; unfold toPys at t
    obtain ⟨x, ys, rfl, r, q⟩ := r
    cases e : toPy d with
    | none => rw [e] at t; cases t
    | some p =>
      cases e2 : toPys ds with
      | none => rw [e, e2] at t; cases t
      | some ps' =>
        rw [e, e2] at t; cases t
        exact .cons (dp_of d x p r e) (dps_of ds ys ps' q e2)
end
end
end Mp
set_option maxHeartbeats 2000000
namespace Mp
open PySem L2
inductive Cell where
  | dat (d : D) | own (ds : List D) | io (ds : List D) | slf (C : Str) (ns : List Str) (ds : List D)
abbrev Env := List (Option Cell)
inductive Opd where
  | val (d : D) | pl (i : Nat)
inductive R (α : Type) where
  | ok (a : α) (env : Env) | exc (C : Str) (f : Str) (d : D) (env : Env) | bad
def R.bind {α β : Type} : R α → (α → Env → R β) → R β
  | .ok a env, k => k a env
  | .exc C f d env, _ => .exc C f d env
  | .bad, _ => .bad
inductive FR where
  | ok (d : D) (out : List D) | exc (C : Str) (f : Str) (d : D) (out : List D) | bad
structure Fn where
  n : Nat
  io : Option Nat
  sem : List D → FR
inductive BOp where
  | add | sub | mul | fdiv | mod | pow
inductive COp where
  | eq | ne | lt | le | gt | ge | is_ | isnot | in_ | notin
inductive Ty where
  | int | bool | str | list | tuple | dict | cls (C : Str)
inductive Blt where
  | len | int | max2 | min2 | sorted | list | tuple | all | any | abs | range1 | range2 | maxl | minl | sum | bool | repr
/-- a clause that tells an error: its class, its field, the word put ahead, whether the repr is told -/
structure HC where
  C : Str
  f : Str
  lab : Str
  rep : Bool
inductive Tgt where
  | name (i : Nat) | tup (is : List Nat)
mutual
inductive IR where
  | c (d : D)
  | v (i : Nat)
  | bin (op : BOp) (a b : IR)
  | cmp (op : COp) (a b : IR)
  | chn (op1 op2 : COp) (a b c : IR)
  | and_ (a b : IR)
  | or_ (a b : IR)
  | not_ (a : IR)
  | neg (a : IR)
  | ite (t a b : IR)
  | tup (es : List IR)
  | lst (es : List IR)
  | ix (a b : IR)
  | sl (a : IR) (lo hi : Option IR)
  | call (j : Nat) (es : List IR)
  | meth (j : Nat) (o : IR) (es : List IR)
  | make (j : Nat) (es : List IR)
  | blt (b : Blt) (es : List IR)
  | isin (a : IR) (ts : List Ty)
  | fld (o : IR) (f : Str)
  | app (i : Nat) (e : IR)
  | pop (i : Nat) (e : IR)
  | lc (tg : Tgt) (it : IT) (t : Option IR) (e : IR) (own : List Nat)
  | lcf (tg : Tgt) (i : Nat) (t : Option IR) (e : IR) (own : List Nat)
  | lrng (e : IR)
  | ocmp (j : Nat) (a b : IR)
  | heard (cs : List HC) (e : IR)
inductive IT where
  | seq (e : IR)
  | rng1 (e : IR)
  | rng2 (a b : IR)
  | zip (a b : IR)
  | enum (a : IR)
end
def BIG : Nat := 100000
def addD : D → D → Option D
  | .int i, .int j => some (.int (i + j))
  | .str a, .str b => if a.length + b.length ≤ BIG then some (.str (a ++ b)) else none
  | .lst a, .lst b => if a.length + b.length ≤ BIG then some (.lst (a ++ b)) else none
  | _, _ => none
def subD : D → D → Option D
  | .int i, .int j => some (.int (i - j))
  | _, _ => none
def mulD : D → D → Option D
  | .int i, .int j => if (-18446744073709551616 < i ∧ i < 18446744073709551616) ∨ (-18446744073709551616 < j ∧ j < 18446744073709551616) then some (.int (i * j)) else none
  | .lst ds, .int j => if 0 ≤ j ∧ j ≤ 100 ∧ ds.length ≤ 100 then some (.lst (List.replicate j.toNat ds).flatten) else none
  | _, _ => none
def fdivD : D → D → Option D
  | .int i, .int j => if 0 < j ∧ j < 1073741824 then some (.int (i / j)) else none
  | _, _ => none
def modD : D → D → Option D
  | .int i, .int j => if 0 < j then some (.int (i % j)) else none
  | _, _ => none
def powD : D → D → Option D
  | .int i, .int j => if 0 ≤ j ∧ j ≤ 1000000 ∧ i.natAbs < 18446744073709551616 then some (.int (i ^ j.toNat)) else none
  | _, _ => none
def binD : BOp → D → D → Option D
  | .add => addD | .sub => subD | .mul => mulD | .fdiv => fdivD | .mod => modD | .pow => powD
mutual
/-- == of data, None where it is not of data (or too deep: n levels) -/
def eqD : D → D → Bool
  | .non, .non => true
  | .bl a, .bl b => a == b
  | .bl a, .int j => (if a then 1 else 0) == j
  | .int i, .bl b => i == (if b then 1 else 0)
  | .int i, .int j => i == j
  | .str x, .str y => x == y
  | .lst xs, .lst ys => eqDs xs ys
  | .tup xs, .tup ys => eqDs xs ys
  | _, _ => false
def eqDs : List D → List D → Bool
  | [], [] => true
  | x :: xs, y :: ys => eqD x y && eqDs xs ys
  | _, _ => false
end
mutual
/-- data, at most n deep -/
def dataD : Nat → D → Bool
  | _, .non => true
  | _, .bl _ => true
  | _, .int _ => true
  | _, .str s => s.cps.all (· < 0x110000)
  | 0, _ => false
  | n + 1, .lst ds => dataDs n ds
  | n + 1, .tup ds => dataDs n ds
  | _, _ => false
def dataDs : Nat → List D → Bool
  | _, [] => true
  | n, d :: ds => dataD n d && dataDs n ds
end
def isNon : D → Bool
  | .non => true
  | _ => false
def cmpD : COp → D → D → Option Bool
  | .eq, x, y => if dataD 20 x && dataD 20 y then some (eqD x y) else none
  | .ne, x, y => if dataD 20 x && dataD 20 y then some (!eqD x y) else none
  | .lt, .int i, .int j => some (decide (i < j))
  | .le, .int i, .int j => some (decide (i ≤ j))
  | .gt, .int i, .int j => some (decide (j < i))
  | .ge, .int i, .int j => some (decide (j ≤ i))
  | .is_, .raw _, _ => none
  | .isnot, .raw _, _ => none
  | .is_, x, .non => some (isNon x)
  | .isnot, x, .non => some (!isNon x)
  | .is_, .bl a, .bl b => some (decide (a = b))
  | .isnot, .bl a, .bl b => some (!decide (a = b))
  | .in_, x, .lst ys => if dataD 19 x && dataDs 19 ys then some (ys.any (eqD x)) else none
  | .in_, x, .tup ys => if dataD 19 x && dataDs 19 ys then some (ys.any (eqD x)) else none
  | .notin, x, .lst ys => if dataD 19 x && dataDs 19 ys then some (!ys.any (eqD x)) else none
  | .notin, x, .tup ys => if dataD 19 x && dataDs 19 ys then some (!ys.any (eqD x)) else none
  | _, _, _ => none
def ixD : D → D → Option D
  | .lst ds, .int i => atI ds i
  | .tup ds, .int i => atI ds i
  | _, _ => none
def cutD (ds : List D) (lo hi : Option Int) : List D := (ds.drop (HT.sIx ds.length 0 lo)).take (HT.sIx ds.length ds.length hi - HT.sIx ds.length 0 lo)
def slD : D → Option Int → Option Int → Option D
  | .lst ds, lo, hi => some (.lst (cutD ds lo hi))
  | _, _, _ => none
def sortI (ns : List Int) : List Int := ns.mergeSort
def intsD : List D → Option (List Int)
  | [] => some []
  | .int i :: ds => (intsD ds).map (i :: ·)
  | _ :: _ => none
def boolsD : List D → Option (List Bool)
  | [] => some []
  | .bl i :: ds => (boolsD ds).map (i :: ·)
  | _ :: _ => none
def iotaD (lo : Int) : Nat → List D
  | 0 => []
  | n + 1 => .int lo :: iotaD (lo + 1) n
/-- data whose repr is told -/
def showB (p : PyData) : Bool := p.showable && !p.hasDict && (match p with | .int i => decide (i.natAbs.log2 < 1920) | _ => true) && decide (p.shown.length ≤ BIG) && decide (p.depth ≤ 60)
def reprD (d : D) : Option D := match toPy d with
  | some p => if showB p then some (.str p.shown) else none
  | none => none
/-- what the first clause of the error's class tells -/
def hear : List HC → Str → Str → D → Option D
  | [], _, _, _ => none
  | c :: cs, C, f, d => if C = c.C then (if f = c.f then (if c.rep then (reprD d).map fun r => .lst [.str c.lab, r] else some (.lst [.str c.lab, d])) else none) else hear cs C f d
def bltD : Blt → List D → Option D
  | .repr, [d] => reprD d
  | .len, [.lst ds] => some (.int ds.length)
  | .len, [.tup ds] => some (.int ds.length)
  | .len, [.str s] => if s.length ≤ 1000000 then some (.int s.length) else none
  | .int, [.int i] => some (.int i)
  | .int, [.bl b] => some (.int (if b then 1 else 0))
  | .bool, [.int i] => some (.bl (i != 0))
  | .bool, [.bl b] => some (.bl b)
  | .abs, [.int i] => some (.int (if i < 0 then -i else i))
  | .max2, [.int i, .int j] => some (.int (if j > i then j else i))
  | .min2, [.int i, .int j] => some (.int (if j < i then j else i))
  | .sorted, [.lst ds] => (intsD ds).map fun ns => .lst ((sortI ns).map .int)
  | .list, [.lst ds] => some (.lst ds)
  | .list, [.tup ds] => some (.lst ds)
  | .tuple, [.lst ds] => some (.tup ds)
  | .tuple, [.tup ds] => some (.tup ds)
  | .all, [.lst ds] => (boolsD ds).map fun bs => .bl (bs.all id)
  | .any, [.lst ds] => (boolsD ds).map fun bs => .bl (bs.any id)
  | .sum, [.lst ds] => (intsD ds).map fun ns => .int ns.sum
  | _, _ => none
def tyD : Ty → D → Bool
  | .int, .int _ => true
  | .int, .bl _ => true
  | .bool, .bl _ => true
  | .str, .str _ => true
  | .list, .lst _ => true
  | .tuple, .tup _ => true
  | .cls C, .obj C' _ _ => decide (C = C')
  | _, _ => false
/-- a value whose class is known -/
def knownB (cs : List Str) : D → Bool
  | .obj C _ _ => cs.contains C
  | .raw _ => false
  | _ => true
def content : Cell → D
  | .dat d => d
  | .own ds => .lst ds
  | .io ds => .lst ds
  | .slf C ns ds => .obj C ns ds
def cellAt (env : Env) (i : Nat) : Option Cell := (env[i]?).join
/-- what an operand is worth now -/
def rdO (env : Env) : Opd → Option D
  | .val d => some d
  | .pl i => (cellAt env i).map content
/-- an operand is kept by something else: a list of one's own is not changed any more -/
def takeO (env : Env) : Opd → Option (D × Env)
  | .val d => some (d, env)
  | .pl i => match cellAt env i with
    | some (.own ds) => some (.lst ds, env.set i (some (.dat (.lst ds))))
    | some (.dat d) => some (d, env)
    | _ => none
/-- a slot that may be given another value -/
def freeB (env : Env) (i : Nat) : Bool := match env[i]? with
  | some (some (.io _)) => false
  | some (some (.slf _ _ _)) => false
  | some _ => true
  | none => false
def bindT (tg : Tgt) (d : D) (env : Env) : Option Env := match tg with
  | .name i => if freeB env i then some (env.set i (some (.dat d))) else none
  | .tup is => match d with
    | .tup ds => if ds.length = is.length ∧ is.all (freeB env) = true then some ((is.zip ds).foldl (fun e p => e.set p.1 (some (.dat p.2))) env) else none
    | .lst ds => if ds.length = is.length ∧ is.all (freeB env) = true then some ((is.zip ds).foldl (fun e p => e.set p.1 (some (.dat p.2))) env) else none
    | _ => none
/-- the target's slots -/
def tgOwn : Tgt → List Nat
  | .name i => [i]
  | .tup is => is
/-- slots that hold a list of one's own can't be hidden by a comprehension -/
def hideB (env : Env) (i : Nat) : Bool := match env[i]? with
  | some none => true
  | some (some (.dat _)) => true
  | _ => false
def ownB (env : Env) (i : Nat) : Bool := match env[i]? with
  | some (some (.own _)) => true
  | _ => false
def wipeE (env : Env) : List Nat → Env
  | [] => env
  | i :: is => (wipeE env is).set i none
/-- behind a comprehension: its slots as they were -/
def backE (old : Env) (env : Env) : List Nat → Env
  | [] => env
  | i :: is => (backE old env is).set i ((old[i]?).join)
def R.take (r : R Opd) : R D := r.bind fun o env => match takeO env o with
  | some (d, env') => .ok d env'
  | none => .bad
def R.rd (r : R Opd) : R D := r.bind fun o env => match rdO env o with
  | some d => .ok d env
  | none => .bad
def lift (env : Env) : Option D → R Opd
  | some d => .ok (.val d) env
  | none => .bad
structure Mt where
  C : Str
  name : Str
  n : Nat
  sem : List D → FR
structure Mkr where
  C : Str
  n : Nat
  ns : List Str
  sem : List D → FR
structure Ctx where
  fns : List Fn
  mts : List Mt
  mks : List Mkr
  cls : List Str
  frs : List Fn
/-- a comprehension's turns -/
def lcLoop (own : List Nat) (tg : Tgt) (t : Option (Env → R Bool)) (e : Env → R D) : List D → Env → R (List D)
  | [], env => .ok [] env
  | d :: ds, env => match bindT tg d (wipeE env own) with
    | none => .bad
    | some env1 => (match t with
        | none => R.ok true env1
        | some t => t env1).bind fun b env2 => if b then (e env2).bind fun x env3 => (lcLoop own tg t e ds env3).bind fun xs env4 => .ok (x :: xs) env4 else lcLoop own tg t e ds env2
def truR (r : R Opd) : R Bool := r.bind fun o env => match (rdO env o).bind truD with
  | some b => .ok b env
  | none => .bad
def zipD : List D → List D → List D
  | x :: xs, y :: ys => .tup [x, y] :: zipD xs ys
  | _, _ => []
def enumD (k : Int) : List D → List D
  | [] => []
  | x :: xs => .tup [.int k, x] :: enumD (k + 1) xs
def seqD : D → Option (List D)
  | .lst ds => some ds
  | .tup ds => some ds
  | _ => none
def lstD : D → Option (List D)
  | .lst ds => some ds
  | _ => none
def noExc {α : Type} : R α → R α
  | .exc _ _ _ _ => .bad
  | r => r
def frR (env : Env) (io : Option Nat) (ops : List Nat) : FR → R Opd
  | .ok d out => match io with
    | none => .ok (.val d) env
    | some _ => match ops with
      | [i] => (match cellAt env i with
        | some (.own _) => .ok (.val d) (env.set i (some (.own out)))
        | some (.io _) => .ok (.val d) (env.set i (some (.io out)))
        | _ => .bad)
      | _ => .bad
  | .exc C f d out => match io with
    | none => .exc C f d env
    | some _ => match ops with
      | [i] => (match cellAt env i with
        | some (.own _) => .exc C f d (env.set i (some (.own out)))
        | some (.io _) => .exc C f d (env.set i (some (.io out)))
        | _ => .bad)
      | _ => .bad
  | .bad => .bad
mutual
def ev (G : Ctx) : IR → Env → R Opd
  | .c d, env => .ok (.val d) env
  | .v i, env => match cellAt env i with
    | some (.dat d) => .ok (.val d) env
    | some (.own _) => .ok (.pl i) env
    | some (.io _) => .ok (.pl i) env
    | _ => .bad
  | .bin op a b, env => (ev G a env).bind fun x e1 => (ev G b e1).bind fun y e2 => match rdO e2 x, rdO e2 y with
    | some p, some q => lift e2 (binD op p q)
    | _, _ => .bad
  | .cmp op a b, env => (ev G a env).bind fun x e1 => (ev G b e1).bind fun y e2 => match rdO e2 x, rdO e2 y with
    | some p, some q => lift e2 ((cmpD op p q).map .bl)
    | _, _ => .bad
  | .chn op1 op2 a b c, env => (ev G a env).bind fun x e1 => (ev G b e1).bind fun y e2 => match rdO e2 x, rdO e2 y with
    | some p, some q => (match cmpD op1 p q with
      | some true => (ev G c e2).bind fun z e3 => (match rdO e3 y, rdO e3 z with
        | some p, some q => lift e3 ((cmpD op2 p q).map .bl)
        | _, _ => .bad)
      | some false => .ok (.val (.bl false)) e2
      | none => .bad)
    | _, _ => .bad
  | .and_ a b, env => (ev G a env).bind fun x e1 => match (rdO e1 x).bind truD with
    | some true => ev G b e1
    | some false => .ok x e1
    | none => .bad
  | .or_ a b, env => (ev G a env).bind fun x e1 => match (rdO e1 x).bind truD with
    | some true => .ok x e1
    | some false => ev G b e1
    | none => .bad
  | .not_ a, env => (ev G a env).bind fun x e1 => match (rdO e1 x).bind truD with
    | some b => .ok (.val (.bl (!b))) e1
    | none => .bad
  | .neg a, env => (ev G a env).bind fun x e1 => match x with
    | .val (.int i) => .ok (.val (.int (-i))) e1
    | _ => .bad
  | .ite t a b, env => (truR (ev G t env)).bind fun c e1 => if c then ev G a e1 else ev G b e1
  | .tup es, env => (evs G es env).bind fun ds e1 => if ds.length ≤ BIG then .ok (.val (.tup ds)) e1 else .bad
  | .lst es, env => (evs G es env).bind fun ds e1 => if ds.length ≤ BIG then .ok (.val (.lst ds)) e1 else .bad
  | .ix a b, env => (ev G a env).bind fun x e1 => (ev G b e1).bind fun y e2 => match rdO e2 x, rdO e2 y with
    | some p, some q => lift e2 (ixD p q)
    | _, _ => .bad
  | .sl a lo hi, env => (ev G a env).bind fun x e1 => (evo G lo e1).bind fun i e2 => (evo G hi e2).bind fun j e3 => match rdO e3 x with
    | some p => lift e3 (slD p i j)
    | none => .bad
  | .call j es, env => match G.fns[j]? with
    | none => .bad
    | some f => if es.length = f.n then (eva G f.io 0 es env).bind fun p e1 => (match (p.1.mapM (rdO e1)) with
      | some ds => frR e1 f.io p.2 (f.sem ds)
      | none => .bad) else .bad
  | .meth j o es, env => match G.mts[j]? with
    | none => .bad
    | some m => (ev G o env).bind fun x e1 => match x with
      | .val (.obj C ns ds) => if C = m.C ∧ es.length + 1 = m.n ∧ ns.contains m.name = false then (evs G es e1).bind fun vs e2 => frR e2 none [] (m.sem (.obj C ns ds :: vs)) else .bad
      | _ => .bad
  | .make j es, env => match G.mks[j]? with
    | none => .bad
    | some m => if es.length = m.n then (evs G es env).bind fun vs e1 => (match m.sem vs with
      | .ok _ out => .ok (.val (.obj m.C m.ns out)) e1
      | .exc C f d _ => .exc C f d e1
      | .bad => .bad) else .bad
  | .blt b es, env => (evr G es env).bind fun os e1 => match os.mapM (rdO e1) with
    | some ds => lift e1 (bltD b ds)
    | none => .bad
  | .isin a ts, env => (ev G a env).bind fun x e1 => match rdO e1 x with
    | some d => if knownB G.cls d then .ok (.val (.bl (ts.any fun t => tyD t d))) e1 else .bad
    | none => .bad
  | .fld o f, env => (ev G o env).bind fun x e1 => match rdO e1 x with
    | some (.obj C ns ds) => if G.cls.contains C then lift e1 ((ns.zip ds).lookup f) else .bad
    | _ => .bad
  | .app i e, env => if ownB env i then (ev G e env).take.bind fun d e1 => match e1[i]? with
    | some (some (.own ds)) => if ds.length < BIG then .ok (.val .non) (e1.set i (some (.own (ds ++ [d])))) else .bad
    | _ => .bad
    else .bad
  | .pop i e, env => if ownB env i then (ev G e env).rd.bind fun d e1 => match e1[i]?, d with
    | some (some (.own ds)), .int k => if 0 ≤ k ∧ k < ds.length ∧ k < 1000000 then (match ds[k.toNat]? with
        | some x => .ok (.val x) (e1.set i (some (.own (ds.eraseIdx k.toNat))))
        | none => .bad) else .bad
    | _, _ => .bad
    else .bad
  | .lc tg it t e own, env => (noExc (evi G it env)).bind fun ds e1 => if ds.length ≤ BIG ∧ own.all (hideB e1) = true ∧ (tgOwn tg).all (fun i => own.contains i) = true then
        (noExc (lcLoop own tg (match t with
          | none => none
          | some t => some fun x => truR (ev G t x)) (fun x => (ev G e x).take) ds e1)).bind fun xs e2 => .ok (.val (.lst xs)) (backE e1 e2 own) else .bad
  | .lcf tg i t e own, env => match env[i]? with
    | some (some (.own ds)) => if ds.length ≤ BIG ∧ own.all (hideB (env.set i none)) = true ∧ (tgOwn tg).all (fun i => own.contains i) = true then
        (noExc (lcLoop own tg (match t with
          | none => none
          | some t => some fun x => truR (ev G t x)) (fun x => (ev G e x).take) ds (env.set i none))).bind fun xs e2 => (match (backE (env.set i none) e2 own)[i]? with
            | some none => .ok (.val (.lst xs)) ((backE (env.set i none) e2 own).set i (some (.own ds)))
            | _ => .bad) else .bad
    | _ => .bad
  | .lrng e, env => (ev G e env).rd.bind fun d e1 => match d with
    | .int j => if -1000000 ≤ j ∧ j ≤ BIG then .ok (.val (.lst (iotaD 0 j.toNat))) e1 else .bad
    | _ => .bad
  | .ocmp j a b, env => (ev G a env).bind fun x e1 => (ev G b e1).bind fun y e2 => match G.mts[j]?, x, y with
    | some m, .val (.obj C ns ds), .val (.obj C' ns' ds') => if C = m.C ∧ C' = m.C ∧ m.n = 2 then (match m.sem [.obj C ns ds, .obj C' ns' ds'] with
      | .ok (.bl k) _ => .ok (.val (.bl k)) e2
      | _ => .bad) else .bad
    | _, _, _ => .bad
  | .heard cs e, env => match ev G e env with
    | .ok _ e1 => .ok (.val .non) e1
    | .exc C f d e1 => lift e1 (hear cs C f d)
    | .bad => .bad
/-- items that are kept -/
def evs (G : Ctx) : List IR → Env → R (List D)
  | [], env => .ok [] env
  | e :: es, env => (ev G e env).take.bind fun d e1 => (evs G es e1).bind fun ds e2 => .ok (d :: ds) e2
/-- items that are looked at alone -/
def evr (G : Ctx) : List IR → Env → R (List Opd)
  | [], env => .ok [] env
  | e :: es, env => (ev G e env).bind fun d e1 => (evr G es e1).bind fun ds e2 => .ok (d :: ds) e2
/-- arguments; the one at io is handed over to be changed: its slot -/
def eva (G : Ctx) (io : Option Nat) : Nat → List IR → Env → R (List Opd × List Nat)
  | _, [], env => .ok ([], []) env
  | n, e :: es, env => if io = some n then (ev G e env).bind fun x e1 => (match x with
        | .pl i => (eva G io (n + 1) es e1).bind fun p e2 => .ok (.pl i :: p.1, i :: p.2) e2
        | _ => .bad)
      else (ev G e env).take.bind fun d e1 => (eva G io (n + 1) es e1).bind fun p e2 => .ok (.val d :: p.1, p.2) e2
def evo (G : Ctx) : Option IR → Env → R (Option Int)
  | none, env => .ok none env
  | some e, env => (ev G e env).rd.bind fun d e1 => match d with
    | .int i => .ok (some i) e1
    | _ => .bad
/-- what is walked -/
def evi (G : Ctx) : IT → Env → R (List D)
  | .seq e, env => (ev G e env).take.bind fun d e1 => match seqD d with
    | some ds => .ok ds e1
    | none => .bad
  | .rng1 e, env => (ev G e env).rd.bind fun d e1 => match d with
    | .int j => if -1000000 ≤ j ∧ j ≤ 1000000 then .ok (iotaD 0 j.toNat) e1 else .bad
    | _ => .bad
  | .rng2 a b, env => (ev G a env).rd.bind fun d e1 => (ev G b e1).rd.bind fun c e2 => match d, c with
    | .int i, .int j => if -1000000 ≤ i ∧ i ≤ 1000000 ∧ -1000000 ≤ j ∧ j ≤ 1000000 then .ok (iotaD i (j - i).toNat) e2 else .bad
    | _, _ => .bad
  | .zip a b, env => (ev G a env).take.bind fun d e1 => (ev G b e1).take.bind fun c e2 => match lstD d, seqD c with
    | some xs, some ys => .ok (zipD xs ys) e2
    | _, _ => .bad
  | .enum a, env => (ev G a env).take.bind fun d e1 => match lstD d with
    | some xs => .ok (enumD 0 xs) e1
    | none => .bad
end
end Mp
set_option maxHeartbeats 2000000
namespace Mp
open PySem L2
variable [TabsW]
def MutAt (env : Env) (σ : L2.St) (a : Addr) : Prop := ∃ (i : Nat) (ds : List D), env[i]? = some (some (Cell.own ds)) ∧ σ[i]? = some (some (V.ref a))
/-- what may be changed here -/
def WW (A : AS) (env : Env) (σ : L2.St) : AS := fun a => A a ∨ MutAt env σ a
def MM (M0 : AS) (env : Env) (σ : L2.St) : AS := fun a => M0 a ∨ MutAt env σ a
/-- what is set apart is there, and the tables tell what they should -/
structure MOk (M : AS) (H : Hp) : Prop where
  al : ∀ a, M a → Lv H a
  tb : ∀ P q, (P, q) ∈ TabsW.T → LamX.TabS H P q
structure EnvR (K : PySem.W.Frag) (H0 : Hp) (M0 A : AS) (env : Env) (σ : L2.St) (H : Hp) : Prop where
  len : env.length = σ.length
  old : ∀ a o, H0 a = some o → ¬ A a → NT o → H a = some o
  alive : ∀ a, Lv H0 a → Lv H a
  tb : ∀ P q, (P, q) ∈ TabsW.T → LamX.TabS H P q
  m0 : ∀ a, M0 a → Lv H a
  aM : ∀ a, A a → M0 a
  a1 : ∀ a b, A a → A b → a = b
  dat : ∀ (i : Nat) (d : D), env[i]? = some (some (Cell.dat d)) → ∃ v, σ[i]? = some (some v) ∧ Rep K H (MM M0 env σ) d v
  own : ∀ (i : Nat) (ds : List D), env[i]? = some (some (Cell.own ds)) → ∃ a xs, σ[i]? = some (some (V.ref a)) ∧ H a = some (.lst xs) ∧ RepL K H (MM M0 env σ) ds xs ∧ ¬ M0 a ∧ ¬ Lv H0 a
  io : ∀ (i : Nat) (ds : List D), env[i]? = some (some (Cell.io ds)) → ∃ a xs, σ[i]? = some (some (V.ref a)) ∧ A a ∧ H a = some (.lst xs) ∧ RepL K H (MM M0 env σ) ds xs
  inj : ∀ (i j : Nat) (a : Addr) (ds es : List D), env[i]? = some (some (Cell.own ds)) → env[j]? = some (some (Cell.own es)) → σ[i]? = some (some (V.ref a)) → σ[j]? = some (some (V.ref a)) → i = j
  io1 : ∀ (i j : Nat) (ds es : List D), env[i]? = some (some (Cell.io ds)) → env[j]? = some (some (Cell.io es)) → i = j
  slf : ∀ (i : Nat) (C : Str) (ns : List Str) (ds : List D), env[i]? = some (some (Cell.slf C ns ds)) → False
def OpdR (K : PySem.W.Frag) (M0 : AS) (env : Env) (σ : L2.St) (H : Hp) : Opd → V → Prop
  | .val d, v => Rep K H (MM M0 env σ) d v
  | .pl i, v => σ[i]? = some (some v) ∧ ∃ c, env[i]? = some (some c)
/-- nothing new is ours, no slot is lost -/
structure Sub (σ : L2.St) (env env' : Env) : Prop where
  own : ∀ a, MutAt env' σ a → MutAt env σ a
  there : ∀ (i : Nat) (c : Cell), env[i]? = some (some c) → ∃ c', env'[i]? = some (some c')
  io : ∀ (i : Nat) (ds : List D), env'[i]? = some (some (Cell.io ds)) → ∃ es, env[i]? = some (some (Cell.io es))
  len : env'.length = env.length
theorem Sub.refl {σ : L2.St} {env : Env} : Sub σ env env := ⟨fun _ z => z, fun _ c h => ⟨c, h⟩, fun _ ds h => ⟨ds, h⟩, rfl⟩
theorem Sub.trans {σ : L2.St} {env e1 e2 : Env} (a : Sub σ env e1) (b : Sub σ e1 e2) : Sub σ env e2 :=
  ⟨fun x z => a.own x (b.own x z), fun i c h => let ⟨c1, h1⟩ := a.there i c h; b.there i c1 h1, fun i ds h => let ⟨es, h1⟩ := b.io i ds h; a.io i es h1, b.len.trans a.len⟩
section
variable {K : PySem.W.Frag} {H0 H H' : Hp} {M0 A : AS} {env env' : Env} {σ : L2.St}
theorem EnvR.freshL (E : EnvR K H0 M0 A env σ H) {p : Addr} (h : ¬ Lv H p) : ¬ MM M0 env σ p ∧ ¬ Lv H0 p := by
  refine ⟨fun z => ?_, fun z => h (E.alive p z)⟩
  rcases z with z | ⟨i, ds, e1, e2⟩
  · exact h (E.m0 p z)
  · obtain ⟨a, xs, s, q, _⟩ := E.own i ds e1
    rw [e2] at s; cases s
    exact h (Lv.lst q)
theorem EnvR.fresh (E : EnvR K H0 M0 A env σ H) {p : Addr} (h : H p = none) : ¬ MM M0 env σ p ∧ ¬ Lv H0 p := E.freshL (nn_of h)
theorem EnvR.mok (E : EnvR K H0 M0 A env σ H) : MOk (MM M0 env σ) H := ⟨fun a ha => Classical.byContradiction fun q => (E.freshL q).1 ha, E.tb⟩
theorem WW.sub (hA : ∀ a, A a → M0 a) : ∀ a, WW A env σ a → MM M0 env σ a := fun a z => z.elim (fun q => .inl (hA a q)) .inr
/-- a step that changes no list of ours -/
theorem EnvR.keep (E : EnvR K H0 M0 A env σ H) (s : Stp (fun _ => False) H H') : EnvR K H0 M0 A env σ H' := by
  have st : Stp (MM M0 env σ) H H' := s.weak fun _ z => z.elim
  refine ⟨E.len, fun a o h n t => s.st a o (E.old a o h n t) id t, fun a h => s.mo a (E.alive a h), fun P q h => s.tb P q h (E.tb P q h), fun a h => s.mo a (E.m0 a h), E.aM, E.a1, fun i d h => ?_, fun i ds h => ?_, fun i ds h => ?_, E.inj, E.io1, E.slf⟩
  · obtain ⟨v, a, b⟩ := E.dat i d h
    exact ⟨v, a, Rep.stp st (fun _ z => z) d v b⟩
  · obtain ⟨a, xs, b, c, d, e⟩ := E.own i ds h
    exact ⟨a, xs, b, s.st a _ c id nt_lst, RepL.stp st (fun _ z => z) ds xs d, e⟩
  · obtain ⟨a, xs, b, c, d, e⟩ := E.io i ds h
    exact ⟨a, xs, b, c, s.st a _ d id nt_lst, RepL.stp st (fun _ z => z) ds xs e⟩
theorem EnvR.new (E : EnvR K H0 M0 A env σ H) {p : Addr} {o : HO} (h : H p = none) : EnvR K H0 M0 A env σ (upd H p o) := E.keep (Stp.new h)
/-- what an operand is worth, read -/
theorem OpdR.rd (E : EnvR K H0 M0 A env σ H) {o : Opd} {v : V} {d : D} (r : OpdR K M0 env σ H o v) (e : rdO env o = some d) : Rep K H (fun _ => False) d v := by
  cases o with
  | val d' =>
    cases e
    exact Rep.stp Stp.refl (fun _ z => z.elim) d v r
  | pl i =>
    obtain ⟨h, c, hc⟩ := r
    have e' : (cellAt env i).map content = some d := e
    unfold cellAt at e'
    rw [hc] at e'
    cases c with
    | dat d' =>
      obtain ⟨v', s, l⟩ := E.dat i d' hc
      rw [h] at s; cases s
      cases e'
      exact Rep.stp Stp.refl (fun _ z => z.elim) d' v l
    | slf C ns ds => exact absurd hc (fun q => E.slf i C ns ds q)
    | own ds =>
      obtain ⟨a, xs, s, q, l, _⟩ := E.own i ds hc
      rw [h] at s; cases s
      cases e'
      unfold content Rep
      exact ⟨a, xs, rfl, .inl ⟨id, Rd.of q⟩, RepL.stp Stp.refl (fun _ z => z.elim) ds xs l⟩
    | io ds =>
      obtain ⟨a, xs, s, _, q, l⟩ := E.io i ds hc
      rw [h] at s; cases s
      cases e'
      unfold content Rep
      exact ⟨a, xs, rfl, .inl ⟨id, Rd.of q⟩, RepL.stp Stp.refl (fun _ z => z.elim) ds xs l⟩
/-- kept: the list is ours no more -/
theorem EnvR.take (E : EnvR K H0 M0 A env σ H) {o : Opd} {v : V} {d : D} (r : OpdR K M0 env σ H o v) (e : takeO env o = some (d, env')) :
    EnvR K H0 M0 A env' σ H ∧ Rep K H (MM M0 env' σ) d v ∧ Sub σ env env' := by
  cases o with
  | val d' =>
    cases e
    exact ⟨E, r, Sub.refl⟩
  | pl i =>
    obtain ⟨h, c, hc⟩ := r
    have e' : (match cellAt env i with | some (.own ds) => some (D.lst ds, env.set i (some (Cell.dat (D.lst ds)))) | some (.dat d) => some (d, env) | _ => none) = some (d, env') := e
    unfold cellAt at e'
    rw [hc] at e'
    cases c with
    | dat d' =>
      obtain ⟨v', s, l⟩ := E.dat i d' hc
      rw [h] at s; cases s
      cases e'
      exact ⟨E, l, Sub.refl⟩
    | slf C ns ds => exact absurd hc (fun q => E.slf i C ns ds q)
    | io ds => cases e'
    | own ds =>
      cases e'
      have hi : i < env.length := (List.getElem?_eq_some_iff.mp hc).1
      obtain ⟨a, xs, s, q, l, nm, h0⟩ := E.own i ds hc
      rw [h] at s; cases s
      have sub : ∀ b, MutAt (env.set i (some (Cell.dat (D.lst ds)))) σ b → MutAt env σ b := fun b ⟨j, es, e1, e2⟩ => by
        by_cases hj : i = j
        · subst hj; rw [List.getElem?_set_self hi] at e1; cases e1
        · rw [List.getElem?_set_ne hj] at e1; exact ⟨j, es, e1, e2⟩
      have subM : ∀ b, MM M0 (env.set i (some (Cell.dat (D.lst ds)))) σ b → MM M0 env σ b := fun b z => z.elim .inl fun q => .inr (sub b q)
      have na : ¬ MM M0 (env.set i (some (Cell.dat (D.lst ds)))) σ a := fun z => by
        rcases z with z | ⟨j, es, e1, e2⟩
        · exact nm z
        · by_cases hj : i = j
          · subst hj; rw [List.getElem?_set_self hi] at e1; cases e1
          · rw [List.getElem?_set_ne hj] at e1
            exact hj (E.inj i j a ds es hc e1 h e2)
      have rl : Rep K H (MM M0 (env.set i (some (Cell.dat (D.lst ds)))) σ) (.lst ds) (.ref a) := by
        unfold Rep
        exact ⟨a, xs, rfl, .inl ⟨na, Rd.of q⟩, RepL.stp Stp.refl subM ds xs l⟩
      have other : ∀ {j c}, (env.set i (some (Cell.dat (D.lst ds))))[j]? = some (some c) → (i = j ∧ c = .dat (.lst ds)) ∨ (i ≠ j ∧ env[j]? = some (some c)) := fun {j c} e1 => by
        by_cases hj : i = j
        · subst hj; rw [List.getElem?_set_self hi] at e1; cases e1; exact .inl ⟨rfl, rfl⟩
        · rw [List.getElem?_set_ne hj] at e1; exact .inr ⟨hj, e1⟩
      refine ⟨⟨by rw [List.length_set]; exact E.len, E.old, E.alive, E.tb, E.m0, E.aM, E.a1, fun j d' e1 => ?_, fun j es e1 => ?_, fun j es e1 => ?_, fun j k b es fs e1 e2 => ?_, fun j k es fs e1 e2 => ?_, fun j C ns es e1 => ?_⟩, rl, sub, fun j c e1 => ?_, fun j es e1 => ?_, List.length_set⟩
      · rcases other e1 with ⟨rfl, e⟩ | ⟨_, e1⟩
        · cases e; exact ⟨_, h, rl⟩
        · obtain ⟨v, a1, a2⟩ := E.dat j d' e1
          exact ⟨v, a1, Rep.stp Stp.refl subM d' v a2⟩
      · rcases other e1 with ⟨rfl, e⟩ | ⟨_, e1⟩
        · cases e
        · obtain ⟨b, ys, a1, a2, a3, a4⟩ := E.own j es e1
          exact ⟨b, ys, a1, a2, RepL.stp Stp.refl subM es ys a3, a4⟩
      · rcases other e1 with ⟨rfl, e⟩ | ⟨_, e1⟩
        · cases e
        · obtain ⟨b, ys, a1, a2, a3, a4⟩ := E.io j es e1
          exact ⟨b, ys, a1, a2, a3, RepL.stp Stp.refl subM es ys a4⟩
      · rcases other e1 with ⟨rfl, e⟩ | ⟨_, e1⟩
        · cases e
        · rcases other e2 with ⟨rfl, e⟩ | ⟨_, e2⟩
          · cases e
          · exact E.inj j k b es fs e1 e2
      · rcases other e1 with ⟨rfl, e⟩ | ⟨_, e1⟩
        · cases e
        · rcases other e2 with ⟨rfl, e⟩ | ⟨_, e2⟩
          · cases e
          · exact E.io1 j k es fs e1 e2
      · rcases other e1 with ⟨rfl, e⟩ | ⟨_, e1⟩
        · cases e
        · exact E.slf j C ns es e1
      · by_cases hj : i = j
        · subst hj; exact ⟨_, List.getElem?_set_self hi⟩
        · exact ⟨c, by rw [List.getElem?_set_ne hj]; exact e1⟩
      · rcases other e1 with ⟨rfl, e⟩ | ⟨_, e1⟩
        · cases e
        · exact ⟨es, e1⟩
/-- a value held while more is reckoned -/
theorem hold {d : D} {v : V} (r : Rep K H (MM M0 env σ) d v) (hA : ∀ a, A a → M0 a) (s : Stp (WW A env σ) H H') (sub : Sub σ env env') : Rep K H' (MM M0 env' σ) d v :=
  Rep.stp (s.weak (WW.sub hA)) (fun a z => z.elim .inl fun q => .inr (sub.own a q)) d v r
theorem OpdR.hold {o : Opd} {v : V} (r : OpdR K M0 env σ H o v) (hA : ∀ a, A a → M0 a) (s : Stp (WW A env σ) H H') (sub : Sub σ env env') : OpdR K M0 env' σ H' o v := by
  cases o with
  | val d => exact Mp.hold r hA s sub
  | pl i =>
    obtain ⟨h, c, hc⟩ := r
    exact ⟨h, sub.there i c hc⟩
theorem Stp.trans2 {H1 H2 : Hp} {e1 : Env} (a : Stp (WW A env σ) H H1) (b : Stp (WW A e1 σ) H1 H2) (sub : Sub σ env e1) : Stp (WW A env σ) H H2 :=
  a.trans (b.weak fun x z => z.elim .inl fun q => .inr (sub.own x q))
/-- what follows a reckoning: P of its outcome, W of an error -/
def Sat {α : Type} (K : PySem.W.Frag) (H0 : Hp) (M0 A : AS) (W : WX) (r : R α) (env : Env) (σ : L2.St) (H : Hp) (P : α → Env → Hp → Prop) : Prop := match r with
  | .ok o env' => ∀ H', Stp (WW A env σ) H H' → Sub σ env env' → EnvR K H0 M0 A env' σ H' → P o env' H'
  | .exc C f d env' => ∀ dd v H', Stp (WW A env σ) H H' → Sub σ env env' → EnvR K H0 M0 A env' σ H' → H' dd = some (.xd [(f, v)]) → Rep K H' (MM M0 env' σ) d v → W (.ref (clsAt K C)) (some dd) σ H'
  | .bad => False
variable {W : WX}
theorem Sat.bind {α β : Type} {r : R α} {f : α → Env → R β} {P : β → Env → Hp → Prop} (h : Sat K H0 M0 A W (r.bind f) env σ H P) :
    Sat K H0 M0 A W r env σ H fun o e1 H1 => Sat K H0 M0 A W (f o e1) e1 σ H1 P := by
  cases r with
  | bad => exact h
  | exc C n d e => exact h
  | ok o e1 =>
    intro H1 s1 sub1 E1
    have h' : Sat K H0 M0 A W (f o e1) env σ H P := h
    generalize f o e1 = q at h'
    show Sat K H0 M0 A W q e1 σ H1 P
    cases q with
    | bad => exact h'
    | exc C n d e => exact fun dd v H2 s2 sub2 E2 => h' dd v H2 (s1.trans2 s2 sub1) (sub1.trans sub2) E2
    | ok o2 e2 => exact fun H2 s2 sub2 E2 => h' H2 (s1.trans2 s2 sub1) (sub1.trans sub2) E2
theorem Sat.mono {α : Type} {r : R α} {P P' : α → Env → Hp → Prop} (h : Sat K H0 M0 A W r env σ H P) (m : ∀ o e1 H1, r = .ok o e1 → Stp (WW A env σ) H H1 → Sub σ env e1 → EnvR K H0 M0 A e1 σ H1 → P o e1 H1 → P' o e1 H1) : Sat K H0 M0 A W r env σ H P' := by
  cases r with
  | bad => exact h
  | exc C n d e => exact h
  | ok o e1 => exact fun H1 s1 sub1 E1 => m o e1 H1 rfl s1 sub1 E1 (h H1 s1 sub1 E1)
/-- fewer lists are ours from here on -/
theorem Sat.sub {α : Type} {r : R α} {P : α → Env → Hp → Prop} (h : Sat K H0 M0 A W r env σ H P) (u : Sub σ env env') : Sat K H0 M0 A W r env' σ H P := by
  have w : ∀ x, WW A env' σ x → WW A env σ x := fun x z => z.elim .inl fun q => .inr (u.own x q)
  cases r with
  | bad => exact h
  | exc C n d e => exact fun dd v H2 s2 sub2 E2 => h dd v H2 (s2.weak w) (u.trans sub2) E2
  | ok o e1 => exact fun H1 s1 sub1 E1 => h H1 (s1.weak w) (u.trans sub1) E1
/-- the heap has gone on -/
theorem Sat.step {α : Type} {r : R α} {P : α → Env → Hp → Prop} (h : Sat K H0 M0 A W r env σ H P) (s : Stp (WW A env σ) H H') : Sat K H0 M0 A W r env σ H' P := by
  cases r with
  | bad => exact h
  | exc C n d e => exact fun dd v H2 s2 sub2 E2 => h dd v H2 (s.trans s2) sub2 E2
  | ok o e1 => exact fun H1 s1 sub1 E1 => h H1 (s.trans s1) sub1 E1
end
end Mp
set_option maxHeartbeats 4000000
namespace Mp
open PySem L2
variable [TabsW]
abbrev NoA : AS := fun _ => False
/-- as Rep, the list itself may be one of ours -/
def RepT (K : PySem.W.Frag) (H : Hp) (M : AS) (d : D) (v : V) : Prop := match d with
  | .lst ds => ∃ a xs, v = .ref a ∧ SqL K H a xs ∧ RepL K H M ds xs
  | .tup ds => ∃ a xs, v = .ref a ∧ Rd H a (.tup xs) ∧ RepL K H M ds xs ∧ ¬ M a
  | d => Rep K H M d v
section
variable {K : PySem.W.Frag} {H H' : Hp} {M : AS} {d : D} {v : V}
theorem Rep.top (r : Rep K H M d v) : RepT K H M d v := by
  cases d with
  | lst ds => unfold Rep at r; obtain ⟨a, xs, h1, h2, h3⟩ := r; exact ⟨a, xs, h1, h2.l, h3⟩
  | tup ds => unfold Rep at r; obtain ⟨a, xs, h1, h0, h2, h3⟩ := r; exact ⟨a, xs, h1, h2, h3, h0⟩
  | _ => exact r
theorem RepT.loose (r : RepT K H M d v) : Rep K H NoA d v := by
  cases d with
  | lst ds =>
    obtain ⟨a, xs, h1, h2, h3⟩ := r
    unfold Rep
    exact ⟨a, xs, h1, RdK.ofS id h2, RepL.stp Stp.refl (fun _ z => z.elim) ds xs h3⟩
  | tup ds =>
    obtain ⟨a, xs, h1, h2, h3, _⟩ := r
    unfold Rep
    exact ⟨a, xs, h1, id, h2, RepL.stp Stp.refl (fun _ z => z.elim) ds xs h3⟩
  | non => exact Rep.stp (M := M) Stp.refl (fun _ z => z.elim) _ v r
  | bl b => exact Rep.stp (M := M) Stp.refl (fun _ z => z.elim) _ v r
  | int b => exact Rep.stp (M := M) Stp.refl (fun _ z => z.elim) _ v r
  | str b => exact Rep.stp (M := M) Stp.refl (fun _ z => z.elim) _ v r
  | obj C ns ds => exact Rep.stp (M := M) Stp.refl (fun _ z => z.elim) _ v r
  | raw b => exact Rep.stp (M := M) Stp.refl (fun _ z => z.elim) _ v r
theorem RepT.int {i : Int} (r : RepT K H M (.int i) v) : v = .int i := by
  have r' : Rep K H M (.int i) v := r
  unfold Rep at r'; exact r'
theorem RepT.bl {i : Bool} (r : RepT K H M (.bl i) v) : v = .bl i := by
  have r' : Rep K H M (.bl i) v := r
  unfold Rep at r'; exact r'
theorem RepT.str {i : Str} (r : RepT K H M (.str i) v) : v = .str i := by
  have r' : Rep K H M (.str i) v := r
  unfold Rep at r'; exact r'
theorem RepT.non (r : RepT K H M .non v) : v = .non := by
  have r' : Rep K H M .non v := r
  unfold Rep at r'; exact r'
theorem rep_int (i : Int) : Rep K H M (.int i) (.int i) := by unfold Rep; rfl
theorem rep_bl (i : Bool) : Rep K H M (.bl i) (.bl i) := by unfold Rep; rfl
theorem rep_str (i : Str) : Rep K H M (.str i) (.str i) := by unfold Rep; rfl
theorem rep_non : Rep K H M .non .non := by unfold Rep; rfl
/-- a list just made -/
theorem rep_new {p : Addr} {ds : List D} {xs : List V} (hp : H p = none) (hM : ¬ M p) (r : RepL K H M ds xs) : Rep K (upd H p (.lst xs)) M (.lst ds) (.ref p) := by
  unfold Rep
  exact ⟨p, xs, rfl, .inl ⟨hM, Rd.of upd_same⟩, RepL.stp (Stp.new (M := M) hp) (fun _ z => z) ds xs r⟩
theorem rep_newT {p : Addr} {ds : List D} {xs : List V} (hp : H p = none) (hM : ¬ M p) (r : RepL K H M ds xs) : Rep K (upd H p (.tup xs)) M (.tup ds) (.ref p) := by
  unfold Rep
  exact ⟨p, xs, rfl, hM, Rd.of upd_same, RepL.stp (Stp.new (M := M) hp) (fun _ z => z) ds xs r⟩
end
section
variable {K : PySem.W.Frag} {H0 H H' : Hp} {M0 A : AS} {env env' : Env} {σ : L2.St}
theorem OpdR.rdT (E : EnvR K H0 M0 A env σ H) {o : Opd} {v : V} {d : D} (r : OpdR K M0 env σ H o v) (e : rdO env o = some d) : RepT K H (MM M0 env σ) d v := by
  cases o with
  | val d' =>
    cases e
    exact Rep.top r
  | pl i =>
    obtain ⟨h, c, hc⟩ := r
    have e' : (cellAt env i).map content = some d := e
    unfold cellAt at e'
    rw [hc] at e'
    cases c with
    | dat d' =>
      obtain ⟨v', s, l⟩ := E.dat i d' hc
      rw [h] at s; cases s
      cases e'
      exact Rep.top l
    | slf C ns ds => exact absurd hc (fun q => E.slf i C ns ds q)
    | own ds =>
      obtain ⟨a, xs, s, q, l, _⟩ := E.own i ds hc
      rw [h] at s; cases s
      cases e'
      exact ⟨a, xs, rfl, .inl (Rd.of q), l⟩
    | io ds =>
      obtain ⟨a, xs, s, _, q, l⟩ := E.io i ds hc
      rw [h] at s; cases s
      cases e'
      exact ⟨a, xs, rfl, .inl (Rd.of q), l⟩
end
/-- a two-place operation is what f says -/
def OpS (K : PySem.W.Frag) (r : R2) (f : D → D → Option D) : Prop := ∀ (M : AS) (x y : V) (H : Hp) (p q z : D) (Q : VK), RepT K H M p x → RepT K H M q y → (∀ a, H a = none → ¬ M a) → f p q = some z →
  (∀ v H', Stp NoA H H' → Rep K H' M z v → Q v H') → r x y H Q
def rOr (r r' : R2) : R2 := fun x y H Q => r x y H Q ∨ r' x y H Q
theorem OpR.or {X : Cx} {f : Value → Value → Sem Value} {r r' : R2} (a : OpR X f r) (b : OpR X f r') : OpR X f (rOr r r') := fun pins s σ H x y v u Q I rx ry h =>
  h.elim (fun q => a pins s σ H x y v u Q I rx ry q) fun q => b pins s σ H x y v u Q I rx ry q
/-- list + list, however they stand -/
def rCatR (K : PySem.W.Frag) : R2 := fun x y H Q => ∃ l b xs zs, x = .ref l ∧ y = .ref b ∧ SqL K H l xs ∧ SqL K H b zs ∧ xs.length + zs.length ≤ sizeLine ∧ ∀ p, H p = none → Q (.ref p) (upd H p (.lst (xs ++ zs)))
theorem op_catR {X : Cx} : OpR X (binaryOp .Add) (rCatR X.K) := by
  intro pins s σ H x y v u Q I rx ry h
  obtain ⟨l, b, xs, zs, rfl, rfl, hH, hB, hz, q⟩ := h
  cases rx
  cases ry
  obtain ⟨its, r, ⟨⟨cls, dd, data, sl⟩, n, ho, hc, hd0, hd⟩, hz1⟩ := I.list hH
  obtain ⟨its2, r2, ⟨⟨cls2, dd2, data2, sl2⟩, n2, ho2, hc2, hd02, hd2⟩, hz2⟩ := I.list hB
  simp only at hc hd hc2 hd2
  subst hc hd hc2 hd2
  have l1 := r.length
  have l2 := r2.length
  refine PySem.concat_meets ⟨_, ho, rfl⟩ ⟨_, ho2, rfl⟩ PySem.noFill_list_add PySem.seq_list_add PySem.F.slot_list_add PySem.F.entry_list_add (PySem.F.args_list_add_2 _ _) (PyProof.Rows.list_addW l b its.toArray its2.toArray n n2 dd dd2 sl sl2 (by rw [List.size_toArray, List.size_toArray]; omega)) ⟨ho, ho2, ?_⟩
  have ea : its.toArray ++ its2.toArray = (its ++ its2).toArray := by simp
  rw [ea]
  exact ⟨.ref _, _, I.lnew (t' := s.toks) (r.append r2) (by rw [List.length_append]; omega), rfl, q _ I.fresh⟩
def rAddU (K : PySem.W.Frag) : R2 := rOr (rI0 fun i j => .int (i + j)) (rOr (fun x y H Q => ∃ i j, x = .str i ∧ y = .str j ∧ i.length + j.length ≤ sizeLine ∧ Q (.str (i ++ j)) H) (rCatR K))
theorem op_addU {X : Cx} : OpR X (binaryOp .Add) (rAddU X.K) := OpR.or op_add (OpR.or op_add_str op_catR)
theorem s_add {K : PySem.W.Frag} : OpS K (rAddU K) addD := by
  intro M x y H p q z Q rp rq hM e k
  have hs : sizeLine = 16777216 := sizeLine_eq
  unfold addD at e
  split at e
  · cases e
    rw [rp.int, rq.int]
    exact .inl ⟨_, _, rfl, rfl, k _ _ Stp.refl (rep_int _)⟩
  · rename_i a b
    by_cases hl : a.length + b.length ≤ BIG
    · rw [if_pos hl] at e; cases e
      rw [rp.str, rq.str]
      exact .inr (.inl ⟨_, _, rfl, rfl, by unfold BIG at hl; omega, k _ _ Stp.refl (rep_str _)⟩)
    · rw [if_neg hl] at e; cases e
  · rename_i a b
    by_cases hl : a.length + b.length ≤ BIG
    · rw [if_pos hl] at e; cases e
      obtain ⟨la, xs, rfl, h1, r1⟩ := rp
      obtain ⟨lb, ys, rfl, h2, r2⟩ := rq
      refine .inr (.inr ⟨la, lb, xs, ys, rfl, rfl, h1, h2, by have := r1.length; have := r2.length; unfold BIG at hl; omega, fun p hp => k _ _ (Stp.new hp) (rep_new hp (hM p hp) (r1.append r2))⟩)
    · rw [if_neg hl] at e; cases e
  · cases e
theorem s_sub {K : PySem.W.Frag} : OpS K (rI0 fun i j => .int (i - j)) subD := by
  intro M x y H p q z Q rp rq hM e k
  unfold subD at e
  split at e
  · cases e
    rw [rp.int, rq.int]
    exact ⟨_, _, rfl, rfl, k _ _ Stp.refl (rep_int _)⟩
  · cases e
def rMulU : R2 := rI CMul fun i j => .int (i * j)
theorem s_mul {K : PySem.W.Frag} : OpS K rMulU (fun p q => match p, q with | .int _, .int _ => mulD p q | _, _ => none) := by
  intro M x y H p q z Q rp rq hM e k
  dsimp only at e
  split at e
  · rename_i i j
    unfold mulD at e
    dsimp only at e
    split at e
    · rename_i hc
      cases e
      rw [rp.int, rq.int]
      refine ⟨_, _, rfl, rfl, ?_, k _ _ Stp.refl (rep_int _)⟩
      unfold CMul
      have e64 : (2 : Int) ^ 64 = 18446744073709551616 := by decide
      rw [e64]
      exact hc
    · cases e
  · cases e
theorem s_fdiv {K : PySem.W.Frag} : OpS K (rI CDiv fun i j => .int (i / j)) fdivD := by
  intro M x y H p q z Q rp rq hM e k
  unfold fdivD at e
  split at e
  · split at e
    · rename_i hc
      cases e
      rw [rp.int, rq.int]
      exact ⟨_, _, rfl, rfl, hc, k _ _ Stp.refl (rep_int _)⟩
    · cases e
  · cases e
theorem s_mod {K : PySem.W.Frag} : OpS K (rI (fun _ j => 0 < j) fun i j => .int (i % j)) modD := by
  intro M x y H p q z Q rp rq hM e k
  unfold modD at e
  split at e
  · split at e
    · rename_i hc
      cases e
      rw [rp.int, rq.int]
      exact ⟨_, _, rfl, rfl, hc, k _ _ Stp.refl (rep_int _)⟩
    · cases e
  · cases e
theorem s_pow {K : PySem.W.Frag} : OpS K (rI CPow fun i j => .int (i ^ j.toNat)) powD := by
  intro M x y H p q z Q rp rq hM e k
  unfold powD at e
  split at e
  · split at e
    · rename_i hc
      cases e
      rw [rp.int, rq.int]
      exact ⟨_, _, rfl, rfl, hc, k _ _ Stp.refl (rep_int _)⟩
    · cases e
  · cases e
section
mutual
theorem eqD_py : ∀ (d e : D) (p q : PyData), toPy d = some p → toPy e = some q → PyData.eqv p q = eqD d e
  | .non, e, p, q, hp, hq => by
    unfold toPy at hp; cases hp
    cases e <;> (unfold toPy at hq) <;> first | (cases hq; done) | (cases hq; rfl) | (rename_i ds; cases h : toPys ds <;> (rw [h] at hq; cases hq); rfl)
  | .bl b, e, p, q, hp, hq => by
    unfold toPy at hp; cases hp
    cases e <;> (unfold toPy at hq) <;> first | (cases hq; done) | (cases hq; rfl) | (rename_i ds; cases h : toPys ds <;> (rw [h] at hq; cases hq); rfl)
  | .int b, e, p, q, hp, hq => by
    unfold toPy at hp; cases hp
    cases e <;> (unfold toPy at hq) <;> first | (cases hq; done) | (cases hq; rfl) | (rename_i ds; cases h : toPys ds <;> (rw [h] at hq; cases hq); rfl)
  | .str b, e, p, q, hp, hq => by
    unfold toPy at hp; cases hp
    cases e <;> (unfold toPy at hq) <;> first | (cases hq; done) | (cases hq; rfl) | (rename_i ds; cases h : toPys ds <;> (rw [h] at hq; cases hq); rfl)
  | .lst ds, e, p, q, hp, hq => by
    unfold toPy at hp
    cases h1 : toPys ds with
    | none => rw [h1] at hp; cases hp
    | some ps =>
      rw [h1] at hp; cases hp
      cases e with
      | lst es =>
        unfold toPy at hq
        cases h2 : toPys es with
        | none => rw [h2] at hq; cases hq
        | some qs => rw [h2] at hq; cases hq; exact eqDs_py ds es ps qs h1 h2
      | tup es =>
        unfold toPy at hq
        cases h2 : toPys es with
        | none => rw [h2] at hq; cases hq
        | some qs => rw [h2] at hq; cases hq; rfl
      | _ => unfold toPy at hq; cases hq <;> rfl
  | .tup ds, e, p, q, hp, hq => by
    unfold toPy at hp
    cases h1 : toPys ds with
    | none => rw [h1] at hp; cases hp
    | some ps =>
      rw [h1] at hp; cases hp
      cases e with
      | tup es =>
        unfold toPy at hq
        cases h2 : toPys es with
        | none => rw [h2] at hq; cases hq
        | some qs => rw [h2] at hq; cases hq; exact eqDs_py ds es ps qs h1 h2
      | lst es =>
        unfold toPy at hq
        cases h2 : toPys es with
        | none => rw [h2] at hq; cases hq
        | some qs => rw [h2] at hq; cases hq; rfl
      | _ => unfold toPy at hq; cases hq <;> rfl
  | .obj C ns ds, e, p, q, hp, hq => by unfold toPy at hp; cases hp
  | .raw v, e, p, q, hp, hq => by unfold toPy at hp; cases hp
theorem eqDs_py : ∀ (ds es : List D) (ps qs : List PyData), toPys ds = some ps → toPys es = some qs → PyData.eqvAll ps qs = eqDs ds es
  | [], es, ps, qs, hp, hq => by
    unfold toPys at hp; cases hp
    cases es with
    | nil => unfold toPys at hq; cases hq; rfl
    | cons e es =>
      unfold toPys at hq
      cases h1 : toPy e with
      | none => rw [h1] at hq; cases hq
      | some q0 =>
        cases h2 : toPys es with
        | none => rw [h1, h2] at hq; cases hq
        | some q1 => rw [h1, h2] at hq; cases hq; rfl
  | d :: ds, es, ps, qs, hp, hq => by
    unfold toPys at hp
    cases h3 : toPy d with
    | none => rw [h3] at hp; cases hp
    | some p0 =>
      cases h4 : toPys ds with
      | none => rw [h3, h4] at hp; cases hp
      | some p1 =>
        rw [h3, h4] at hp; cases hp
        cases es with
        | nil => unfold toPys at hq; cases hq; rfl
        | cons e es =>
          unfold toPys at hq
          cases h1 : toPy e with
          | none => rw [h1] at hq; cases hq
          | some q0 =>
            cases h2 : toPys es with
            | none => rw [h1, h2] at hq; cases hq
            | some q1 =>
              rw [h1, h2] at hq; cases hq
              show (PyData.eqv p0 q0 && PyData.eqvAll p1 q1) = (eqD d e && eqDs ds es)
              rw [eqD_py d e p0 q0 h3 h1, eqDs_py ds es p1 q1 h4 h2]
end
end
end Mp
set_option maxHeartbeats 4000000
namespace Mp
open PySem L2
variable [TabsW]
mutual
theorem data_py : ∀ (n : Nat) (d : D), dataD n d = true → ∃ p, toPy d = some p ∧ p.canLay0 = true ∧ p.depth ≤ n
  | n, .non, h => ⟨.none, by unfold toPy; rfl, rfl, Nat.zero_le _⟩
  | n, .bl b, h => ⟨.bool b, by unfold toPy; rfl, rfl, Nat.zero_le _⟩
  | n, .int b, h => ⟨.int b, by unfold toPy; rfl, rfl, Nat.zero_le _⟩
  | n, .str b, h => ⟨.str b, by unfold toPy; rfl, by unfold dataD at h; exact h, Nat.zero_le _⟩
  | 0, .lst ds, h => by unfold dataD at h; cases h
  | 0, .tup ds, h => by unfold dataD at h; cases h
  | n + 1, .lst ds, h => by
    unfold dataD at h
    obtain ⟨ps, e, c, z⟩ := datas_py n ds h
    exact ⟨.list ps, by unfold toPy; rw [e] <;> rfl, c, by show PyData.depthAll ps + 1 ≤ n + 1; omega⟩
  | n + 1, .tup ds, h => by
    unfold dataD at h
    obtain ⟨ps, e, c, z⟩ := datas_py n ds h
    exact ⟨.tuple ps, by unfold toPy; rw [e] <;> rfl, c, by show PyData.depthAll ps + 1 ≤ n + 1; omega⟩
  | 0, .obj C ns ds, h => by unfold dataD at h; cases h
  | n + 1, .obj C ns ds, h => by unfold dataD at h; cases h
  | 0, .raw v, h => by unfold dataD at h; cases h
  | n + 1, .raw v, h => by unfold dataD at h; cases h
theorem datas_py : ∀ (n : Nat) (ds : List D), dataDs n ds = true → ∃ ps, toPys ds = some ps ∧ PyData.canLayAll0 ps = true ∧ PyData.depthAll ps ≤ n
  | n, [], h => ⟨[], by unfold toPys; rfl, rfl, Nat.zero_le _⟩
  | n, d :: ds, h => by
    unfold dataDs at h
    rw [Bool.and_eq_true] at h
    obtain ⟨p, e, c, z⟩ := data_py n d h.1
    obtain ⟨ps, e2, c2, z2⟩ := datas_py n ds h.2
    refine ⟨p :: ps, by unfold toPys; rw [e, e2] <;> rfl, ?_, ?_⟩
    · show (p.canLay0 && PyData.canLayAll0 ps) = true
      rw [c, c2] <;> rfl
    · show max p.depth (PyData.depthAll ps) ≤ n
      omega
end
theorem shaped_of {n : Nat} {d : D} (h : dataD n d = true) (hn : n ≤ 64) : ∃ p, toPy d = some p ∧ SeqAt.shaped p = true := by
  obtain ⟨p, e, c, z⟩ := data_py n d h
  refine ⟨p, e, ?_⟩
  unfold SeqAt.shaped
  rw [c, decide_eq_true (by omega : p.depth ≤ 64)]
  rfl
/-- a comparison is what cmpD says -/
def CmS (K : PySem.W.Frag) (r : R2) (op : COp) : Prop := OpS K r fun p q => (cmpD op p q).map D.bl
theorem OpS.imp {K : PySem.W.Frag} {r : R2} {f g : D → D → Option D} (h : OpS K r f) (i : ∀ p q z, g p q = some z → f p q = some z) : OpS K r g :=
  fun M x y H p q z Q rp rq hM e k => h M x y H p q z Q rp rq hM (i p q z e) k
section
variable {K : PySem.W.Frag}
theorem s_eq : CmS K (rEqD K) .eq := by
  intro M x y H p q z Q rp rq hM e k
  dsimp only [cmpD] at e
  split at e
  · rename_i hd
    cases e
    rw [Bool.and_eq_true] at hd
    obtain ⟨a, ea, sa⟩ := shaped_of hd.1 (by decide)
    obtain ⟨b, eb, sb⟩ := shaped_of hd.2 (by decide)
    refine ⟨a, b, dp_of p x a rp.loose ea, dp_of q y b rq.loose eb, sa, sb, ?_⟩
    rw [eqD_py p q a b ea eb]
    exact k _ _ Stp.refl (rep_bl _)
  · cases e
theorem s_ne : CmS K (rNeD K) .ne := by
  intro M x y H p q z Q rp rq hM e k
  dsimp only [cmpD] at e
  split at e
  · rename_i hd
    cases e
    rw [Bool.and_eq_true] at hd
    obtain ⟨a, ea, sa⟩ := shaped_of hd.1 (by decide)
    obtain ⟨b, eb, sb⟩ := shaped_of hd.2 (by decide)
    refine ⟨a, b, dp_of p x a rp.loose ea, dp_of q y b rq.loose eb, sa, sb, ?_⟩
    rw [eqD_py p q a b ea eb]
    exact k _ _ Stp.refl (rep_bl _)
  · cases e
theorem s_lt : CmS K (rI0 fun i j => .bl (decide (i < j))) .lt := by
  intro M x y H p q z Q rp rq hM e k
  cases p <;> cases q <;> first | (cases e; done) | skip
  cases e
  rw [rp.int, rq.int]
  exact ⟨_, _, rfl, rfl, k _ _ Stp.refl (rep_bl _)⟩
theorem s_le : CmS K (rI0 fun i j => .bl (decide (i ≤ j))) .le := by
  intro M x y H p q z Q rp rq hM e k
  cases p <;> cases q <;> first | (cases e; done) | skip
  cases e
  rw [rp.int, rq.int]
  exact ⟨_, _, rfl, rfl, k _ _ Stp.refl (rep_bl _)⟩
theorem s_gt : CmS K (rI0 fun i j => .bl (decide (j < i))) .gt := by
  intro M x y H p q z Q rp rq hM e k
  cases p <;> cases q <;> first | (cases e; done) | skip
  cases e
  rw [rp.int, rq.int]
  exact ⟨_, _, rfl, rfl, k _ _ Stp.refl (rep_bl _)⟩
theorem s_ge : CmS K (rI0 fun i j => .bl (decide (j ≤ i))) .ge := by
  intro M x y H p q z Q rp rq hM e k
  cases p <;> cases q <;> first | (cases e; done) | skip
  cases e
  rw [rp.int, rq.int]
  exact ⟨_, _, rfl, rfl, k _ _ Stp.refl (rep_bl _)⟩
theorem isNon_of {H : Hp} {M : AS} {p : D} {x : V} (r : RepT K H M p x) (hr : ∀ v, p ≠ .raw v) : decide (x = .non) = isNon p := by
  cases p with
  | non => rw [r.non]; rfl
  | bl b => rw [r.bl]; rfl
  | int b => rw [r.int]; rfl
  | str b => rw [r.str]; rfl
  | lst ds => obtain ⟨a, xs, rfl, _⟩ := r; rfl
  | tup ds => obtain ⟨a, xs, rfl, _⟩ := r; rfl
  | obj C ns ds =>
    have r' : Rep K H M (.obj C ns ds) x := r
    unfold Rep at r'
    obtain ⟨a, _, _, rfl, _⟩ := r'
    rfl
  | raw v => exact absurd rfl (hr v)
theorem s_is : CmS K (rOr (fun x y H Q => y = .non ∧ Q (.bl (decide (x = .non))) H) (fun x y H Q => ∃ a b, x = .bl a ∧ y = .bl b ∧ Q (.bl (decide (a = b))) H)) .is_ := by
  intro M x y H p q z Q rp rq hM e k
  cases q with
  | non =>
    have hr : ∀ v, p ≠ .raw v := fun v z => by subst z; cases e
    have e' : some (D.bl (isNon p)) = some z := by cases p <;> first | exact e | exact absurd rfl (hr _)
    cases e'
    refine .inl ⟨rq.non, ?_⟩
    rw [isNon_of rp hr]
    exact k _ _ Stp.refl (rep_bl _)
  | bl b =>
    cases p <;> first | (cases e; done) | skip
    cases e
    rw [rp.bl, rq.bl]
    exact .inr ⟨_, _, rfl, rfl, k _ _ Stp.refl (rep_bl _)⟩
  | _ => cases p <;> cases e
theorem s_isnot : CmS K (rOr (fun x y H Q => y = .non ∧ Q (.bl (!decide (x = .non))) H) (fun x y H Q => ∃ a b, x = .bl a ∧ y = .bl b ∧ Q (.bl (!decide (a = b))) H)) .isnot := by
  intro M x y H p q z Q rp rq hM e k
  cases q with
  | non =>
    have hr : ∀ v, p ≠ .raw v := fun v z => by subst z; cases e
    have e' : some (D.bl (!isNon p)) = some z := by cases p <;> first | exact e | exact absurd rfl (hr _)
    cases e'
    refine .inl ⟨rq.non, ?_⟩
    rw [isNon_of rp hr]
    exact k _ _ Stp.refl (rep_bl _)
  | bl b =>
    cases p <;> first | (cases e; done) | skip
    cases e
    rw [rp.bl, rq.bl]
    exact .inr ⟨_, _, rfl, rfl, k _ _ Stp.refl (rep_bl _)⟩
  | _ => cases p <;> cases e
theorem atI_rep {H : Hp} {M : AS} {ds : List D} {xs : List V} {i : Int} {d : D} (r : RepL K H M ds xs) (e : atI ds i = some d) : ∃ x, atI xs i = some x ∧ Rep K H M d x := by
  unfold atI at e ⊢
  rw [r.length] at e
  cases h : ixN xs.length i with
  | none => rw [h] at e; cases e
  | some j =>
    rw [h] at e
    exact r.get e
theorem s_ix : OpS K (rOr (rIxL K) (rIxT K)) ixD := by
  intro M x y H p q z Q rp rq hM e k
  unfold ixD at e
  split at e
  · obtain ⟨a, xs, rfl, h, r⟩ := rp
    obtain ⟨w, e1, e2⟩ := atI_rep r e
    exact .inl ⟨a, xs, _, w, rfl, rq.int, h, e1, k _ _ Stp.refl e2⟩
  · obtain ⟨a, xs, rfl, h, r, _⟩ := rp
    obtain ⟨w, e1, e2⟩ := atI_rep r e
    exact .inr ⟨a, xs, _, w, rfl, rq.int, Rd.t h, e1, k _ _ Stp.refl e2⟩
  · cases e
/-- a call on values is what f says -/
def CaS (K : PySem.W.Frag) (r : List V → Hp → VK → Prop) (f : List D → Option D) : Prop := ∀ (M : AS) (xs : List V) (H : Hp) (ps : List D) (z : D) (Q : VK), Paired (RepT K H M) ps xs → (∀ a, H a = none → ¬ M a) → f ps = some z →
  (∀ v H', Stp NoA H H' → Rep K H' M z v → Q v H') → r xs H Q
theorem intsD_of : ∀ {ds : List D} {ns : List Int}, intsD ds = some ns → ds = ns.map D.int
  | [], ns, h => by unfold intsD at h; cases h; rfl
  | d :: ds, ns, h => by
    cases d with
    | int i =>
      unfold intsD at h
      cases e : intsD ds with
      | none => rw [e] at h; cases h
      | some ms => rw [e] at h; cases h; rw [intsD_of e]; rfl
    | _ => unfold intsD at h; cases h
theorem boolsD_of : ∀ {ds : List D} {ns : List Bool}, boolsD ds = some ns → ds = ns.map D.bl
  | [], ns, h => by unfold boolsD at h; cases h; rfl
  | d :: ds, ns, h => by
    cases d with
    | bl i =>
      unfold boolsD at h
      cases e : boolsD ds with
      | none => rw [e] at h; cases h
      | some ms => rw [e] at h; cases h; rw [boolsD_of e]; rfl
    | _ => unfold boolsD at h; cases h
theorem s_len : CaS K (fun xs H Q => ∃ x n, xs = [x] ∧ LenV K x H n ∧ Q (.int n) H) (bltD .len) := by
  intro M xs H ps z Q r hM e k
  have hs : sizeLine = 16777216 := sizeLine_eq
  cases r with
  | nil => cases e
  | cons r1 r2 =>
    rename_i d ds x xs'
    cases r2 with
    | cons a b => cases d <;> cases e
    | nil =>
      cases d with
      | lst es =>
        cases e
        obtain ⟨a, ys, rfl, h, rr⟩ := r1
        exact ⟨_, _, rfl, .inl ⟨ys, h, rfl⟩, by rw [← rr.length]; exact k _ _ Stp.refl (rep_int _)⟩
      | tup es =>
        cases e
        obtain ⟨a, ys, rfl, h, rr, _⟩ := r1
        exact ⟨_, _, rfl, .inr ⟨ys, Rd.t h, rfl⟩, by rw [← rr.length]; exact k _ _ Stp.refl (rep_int _)⟩
      | str s =>
        have e' : (if s.length ≤ 1000000 then some (D.int s.length) else none) = some z := e
        by_cases hl : s.length ≤ 1000000
        · rw [if_pos hl] at e'; cases e'
          rw [r1.str]
          exact ⟨_, _, rfl, ⟨by omega, rfl⟩, k _ _ Stp.refl (rep_int _)⟩
        · rw [if_neg hl] at e'; cases e'
      | _ => cases e
end
end Mp
set_option maxHeartbeats 4000000
namespace Mp
open PySem L2
variable [TabsW]
section
variable {K : PySem.W.Frag}
theorem one_of {H : Hp} {M : AS} {ps : List D} {xs : List V} {f : List D → Option D} {z : D} (r : Paired (RepT K H M) ps xs) (e : f ps = some z) (h0 : f [] = none) (h2 : ∀ a b c, f (a :: b :: c) = none) : ∃ d x, ps = [d] ∧ xs = [x] ∧ RepT K H M d x := by
  cases r with
  | nil => rw [h0] at e; cases e
  | cons r1 r2 =>
    cases r2 with
    | nil => exact ⟨_, _, rfl, rfl, r1⟩
    | cons a b => rw [h2] at e; cases e
theorem two_of {H : Hp} {M : AS} {ps : List D} {xs : List V} {f : List D → Option D} {z : D} (r : Paired (RepT K H M) ps xs) (e : f ps = some z) (h0 : f [] = none) (h1 : ∀ a, f [a] = none) (h3 : ∀ a b c d, f (a :: b :: c :: d) = none) :
    ∃ d x d' x', ps = [d, d'] ∧ xs = [x, x'] ∧ RepT K H M d x ∧ RepT K H M d' x' := by
  cases r with
  | nil => rw [h0] at e; cases e
  | cons r1 r2 =>
    cases r2 with
    | nil => rw [h1] at e; cases e
    | cons a b =>
      cases b with
      | nil => exact ⟨_, _, _, _, rfl, rfl, r1, a⟩
      | cons c d => rw [h3] at e; cases e
theorem s_int : CaS K (fun xs H Q => (∃ i, xs = [.int i] ∧ Q (.int i) H) ∨ ∃ k, xs = [.bl k] ∧ Q (.int (if k then 1 else 0)) H) (bltD .int) := by
  intro M xs H ps z Q r hM e k
  obtain ⟨d, x, rfl, rfl, rd⟩ := one_of r e rfl (fun a b c => by cases a <;> rfl)
  cases d <;> first | (cases e; done) | skip
  · cases e; rw [rd.bl]; exact .inr ⟨_, rfl, k _ _ Stp.refl (rep_int _)⟩
  · cases e; rw [rd.int]; exact .inl ⟨_, rfl, k _ _ Stp.refl (rep_int _)⟩
theorem s_max2 : CaS K (fun xs H Q => ∃ i j, xs = [.int i, .int j] ∧ Q (.int (if j > i then j else i)) H) (bltD .max2) := by
  intro M xs H ps z Q r hM e k
  obtain ⟨d, x, d', x', rfl, rfl, rd, rd'⟩ := two_of r e rfl (fun a => by cases a <;> rfl) (fun a b c d => by cases a <;> cases b <;> rfl)
  cases d <;> cases d' <;> first | (cases e; done) | skip
  cases e; rw [rd.int, rd'.int]; exact ⟨_, _, rfl, k _ _ Stp.refl (rep_int _)⟩
theorem s_min2 : CaS K (fun xs H Q => ∃ i j, xs = [.int i, .int j] ∧ Q (.int (if j < i then j else i)) H) (bltD .min2) := by
  intro M xs H ps z Q r hM e k
  obtain ⟨d, x, d', x', rfl, rfl, rd, rd'⟩ := two_of r e rfl (fun a => by cases a <;> rfl) (fun a b c d => by cases a <;> cases b <;> rfl)
  cases d <;> cases d' <;> first | (cases e; done) | skip
  cases e; rw [rd.int, rd'.int]; exact ⟨_, _, rfl, k _ _ Stp.refl (rep_int _)⟩
theorem sortI_eq {ns ms : List Int} (p : ms.Perm ns) (h : ms.Pairwise (· ≤ ·)) : ms = sortI ns := by
  have h2 : (sortI ns).Pairwise (· ≤ ·) := by
    have := List.pairwise_mergeSort (le := fun (a b : Int) => decide (a ≤ b)) (by intro a b c; simp; omega) (by intro a b; simp; omega) ns
    simpa [sortI] using this
  have p2 : (sortI ns).Perm ns := List.mergeSort_perm ns _
  exact List.Perm.eq_of_pairwise (fun a b _ _ h1 h2 => Int.le_antisymm h1 h2) h h2 (p.trans p2.symm)
theorem s_sorted : CaS K (rSortedI K) (bltD .sorted) := by
  intro M xs H ps z Q r hM e k
  obtain ⟨d, x, rfl, rfl, rd⟩ := one_of r e rfl (fun a b c => by cases a <;> rfl)
  cases d <;> first | (cases e; done) | skip
  rename_i ds
  have e' : (intsD ds).map (fun ns => D.lst ((sortI ns).map .int)) = some z := e
  cases h : intsD ds with
  | none => rw [h] at e'; cases e'
  | some ns =>
    rw [h] at e'; cases e'
    have := intsD_of h
    subst this
    obtain ⟨a, ys, rfl, hr, rr⟩ := rd
    have := rr.ints
    subst this
    refine ⟨a, ns, rfl, hr, fun ns' p hp hs hn => ?_⟩
    rw [sortI_eq hp hs]
    exact k _ _ (Stp.new hn) (rep_new hn (hM p hn) (RepL.of_ints _))
theorem s_list : CaS K (fun xs H Q => ∃ p ys, xs = [.ref p] ∧ (SqL K H p ys ∨ SqT K H p ys) ∧ ∀ l, H l = none → Q (.ref l) (upd H l (.lst ys))) (bltD .list) := by
  intro M xs H ps z Q r hM e k
  obtain ⟨d, x, rfl, rfl, rd⟩ := one_of r e rfl (fun a b c => by cases a <;> rfl)
  cases d <;> first | (cases e; done) | skip
  · cases e
    obtain ⟨a, ys, rfl, hr, rr⟩ := rd
    exact ⟨a, ys, rfl, .inl (hr), fun l hl => k _ _ (Stp.new hl) (rep_new hl (hM l hl) rr)⟩
  · cases e
    obtain ⟨a, ys, rfl, hr, rr, _⟩ := rd
    exact ⟨a, ys, rfl, .inr (Rd.t hr), fun l hl => k _ _ (Stp.new hl) (rep_new hl (hM l hl) rr)⟩
theorem s_tuple : CaS K (fun xs H Q => ∃ p ys, xs = [.ref p] ∧ ((SqL K H p ys ∧ ∀ l, H l = none → Q (.ref l) (upd H l (.tup ys))) ∨ (SqT K H p ys ∧ Q (.ref p) H))) (bltD .tuple) := by
  intro M xs H ps z Q r hM e k
  obtain ⟨d, x, rfl, rfl, rd⟩ := one_of r e rfl (fun a b c => by cases a <;> rfl)
  cases d <;> first | (cases e; done) | skip
  · cases e
    obtain ⟨a, ys, rfl, hr, rr⟩ := rd
    exact ⟨a, ys, rfl, .inl ⟨hr, fun l hl => k _ _ (Stp.new hl) (rep_newT hl (hM l hl) rr)⟩⟩
  · cases e
    obtain ⟨a, ys, rfl, hr, rr, n⟩ := rd
    exact ⟨a, ys, rfl, .inr ⟨Rd.t hr, k _ _ Stp.refl (by unfold Rep; exact ⟨a, ys, rfl, n, hr, rr⟩)⟩⟩
theorem s_all : CaS K (rAll K) (bltD .all) := by
  intro M xs H ps z Q r hM e k
  obtain ⟨d, x, rfl, rfl, rd⟩ := one_of r e rfl (fun a b c => by cases a <;> rfl)
  cases d <;> first | (cases e; done) | skip
  rename_i ds
  have e' : (boolsD ds).map (fun bs => D.bl (bs.all id)) = some z := e
  cases h : boolsD ds with
  | none => rw [h] at e'; cases e'
  | some ns =>
    rw [h] at e'; cases e'
    have := boolsD_of h
    subst this
    obtain ⟨a, ys, rfl, hr, rr⟩ := rd
    have := rr.bools
    subst this
    exact ⟨a, ns, rfl, hr, k _ _ Stp.refl (rep_bl _)⟩
theorem s_any : CaS K (rAny K) (bltD .any) := by
  intro M xs H ps z Q r hM e k
  obtain ⟨d, x, rfl, rfl, rd⟩ := one_of r e rfl (fun a b c => by cases a <;> rfl)
  cases d <;> first | (cases e; done) | skip
  rename_i ds
  have e' : (boolsD ds).map (fun bs => D.bl (bs.any id)) = some z := e
  cases h : boolsD ds with
  | none => rw [h] at e'; cases e'
  | some ns =>
    rw [h] at e'; cases e'
    have := boolsD_of h
    subst this
    obtain ⟨a, ys, rfl, hr, rr⟩ := rd
    have := rr.bools
    subst this
    exact ⟨a, ns, rfl, hr, k _ _ Stp.refl (rep_bl _)⟩
end
end Mp
set_option maxHeartbeats 4000000
namespace Mp
open PySem L2
variable [TabsW]
def IoA (io : Option Nat) (vs : List V) : AS := fun a => ∃ i, io = some i ∧ vs[i]? = some (.ref a)
def ArgR (K : PySem.W.Frag) (H : Hp) (M : AS) (io : Option Nat) (ds : List D) (vs : List V) : Prop := ds.length = vs.length ∧ ∀ (i : Nat) (d : D) (v : V), ds[i]? = some d → vs[i]? = some v →
  (io ≠ some i → Rep K H M d v) ∧ (io = some i → ∃ a xs es, d = .lst es ∧ v = .ref a ∧ M a ∧ H a = some (.lst xs) ∧ RepL K H M es xs)
def OutR (K : PySem.W.Frag) (H : Hp) (M : AS) (io : Option Nat) (out : List D) (vs : List V) : Prop := ∀ i, io = some i → ∃ a xs, vs[i]? = some (.ref a) ∧ H a = some (.lst xs) ∧ RepL K H M out xs
/-- what a def with the sense F promises: n arguments, the one at io is changed -/
def spF (K : PySem.W.Frag) (n : Nat) (io : Option Nat) (F : List D → FR) : Sp := fun vs H Q E => vs.length = n ∧ ∃ (M : AS) (ds : List D), MOk M H ∧ ArgR K H M io ds vs ∧
  (match F ds with
   | .ok d out => ∀ v H', Stp (IoA io vs) H H' → OutR K H' M io out vs → Rep K H' M d v → Q v H'
   | .exc C f d out => ∀ dd v H', Stp (IoA io vs) H H' → OutR K H' M io out vs → H' dd = some (.xd [(f, v)]) → Rep K H' M d v → E (.ref (clsAt K C)) (some dd) H'
   | .bad => False)
section
variable {K : PySem.W.Frag} {H0 H H' : Hp} {M0 A : AS} {env env' : Env} {σ : L2.St}
theorem EnvR.setOwn (E : EnvR K H0 M0 A env σ H) {i : Nat} {ds out : List D} {a : Addr} {ys : List V} (hc : env[i]? = some (some (Cell.own ds))) (ha : σ[i]? = some (some (V.ref a))) (s : Stp (fun x => x = a) H H') (h' : H' a = some (.lst ys))
    (r : RepL K H' (MM M0 env σ) out ys) : EnvR K H0 M0 A (env.set i (some (Cell.own out))) σ H' ∧ Sub σ env (env.set i (some (Cell.own out))) ∧ MM M0 (env.set i (some (Cell.own out))) σ = MM M0 env σ := by
  have hi : i < env.length := (List.getElem?_eq_some_iff.mp hc).1
  obtain ⟨a', xs, sa, q, l, nm, h0⟩ := E.own i ds hc
  rw [ha] at sa; cases sa
  have mutI : ∀ b, MutAt (env.set i (some (Cell.own out))) σ b ↔ MutAt env σ b := fun b => by
    constructor
    · rintro ⟨j, es, e1, e2⟩
      by_cases hj : i = j
      · subst hj; exact ⟨i, ds, hc, e2⟩
      · rw [List.getElem?_set_ne hj] at e1; exact ⟨j, es, e1, e2⟩
    · rintro ⟨j, es, e1, e2⟩
      by_cases hj : i = j
      · subst hj; exact ⟨i, out, List.getElem?_set_self hi, e2⟩
      · exact ⟨j, es, by rw [List.getElem?_set_ne hj]; exact e1, e2⟩
  have eM : MM M0 (env.set i (some (Cell.own out))) σ = MM M0 env σ := by
    funext b
    exact propext ⟨fun z => z.elim .inl fun q => .inr ((mutI b).mp q), fun z => z.elim .inl fun q => .inr ((mutI b).mpr q)⟩
  have Ma : MM M0 env σ a := .inr ⟨i, ds, hc, ha⟩
  have st : Stp (MM M0 env σ) H H' := s.weak fun x e => e ▸ Ma
  have other : ∀ {j c}, (env.set i (some (Cell.own out)))[j]? = some (some c) → (i = j ∧ c = .own out) ∨ (i ≠ j ∧ env[j]? = some (some c)) := fun {j c} e1 => by
    by_cases hj : i = j
    · subst hj; rw [List.getElem?_set_self hi] at e1; cases e1; exact .inl ⟨rfl, rfl⟩
    · rw [List.getElem?_set_ne hj] at e1; exact .inr ⟨hj, e1⟩
  refine ⟨⟨by rw [List.length_set]; exact E.len, fun b o e n t => ?_, fun b h => s.mo b (E.alive b h), fun P q h => s.tb P q h (E.tb P q h), fun b hb => s.mo b (E.m0 b hb), E.aM, E.a1, fun j d' e1 => ?_, fun j es e1 => ?_, fun j es e1 => ?_, fun j k b es fs e1 e2 e3 e4 => ?_, fun j k es fs e1 e2 => ?_, fun j C ns es e1 => ?_⟩, ⟨fun b z => (mutI b).mp z, fun j c e1 => ?_, fun j es e1 => ?_, List.length_set⟩, eM⟩
  · exact s.st b o (E.old b o e n t) (fun z => h0 ⟨o, by rw [← z]; exact e, t⟩) t
  · rw [eM]
    rcases other e1 with ⟨rfl, e⟩ | ⟨_, e1⟩
    · cases e
    · obtain ⟨v, a1, a2⟩ := E.dat j d' e1
      exact ⟨v, a1, Rep.stp st (fun _ z => z) d' v a2⟩
  · rw [eM]
    rcases other e1 with ⟨rfl, e⟩ | ⟨hj, e1⟩
    · cases e; exact ⟨a, ys, ha, h', r, nm, h0⟩
    · obtain ⟨b, zs, a1, a2, a3, a4⟩ := E.own j es e1
      exact ⟨b, zs, a1, s.st b _ a2 (fun z => by subst z; exact hj (E.inj i j b ds es hc e1 ha a1)) nt_lst, RepL.stp st (fun _ z => z) es zs a3, a4⟩
  · rw [eM]
    rcases other e1 with ⟨rfl, e⟩ | ⟨hj, e1⟩
    · cases e
    · obtain ⟨b, zs, a1, a2, a3, a4⟩ := E.io j es e1
      exact ⟨b, zs, a1, a2, s.st b _ a3 (fun z => by subst z; exact nm (E.aM b a2)) nt_lst, RepL.stp st (fun _ z => z) es zs a4⟩
  · rcases other e1 with ⟨rfl, e⟩ | ⟨_, e1⟩
    · rcases other e2 with ⟨rfl, _⟩ | ⟨_, e2⟩
      · rfl
      · exact E.inj i k b ds fs hc e2 e3 e4
    · rcases other e2 with ⟨rfl, e⟩ | ⟨_, e2⟩
      · exact E.inj j i b es ds e1 hc e3 e4
      · exact E.inj j k b es fs e1 e2 e3 e4
  · rcases other e1 with ⟨rfl, e⟩ | ⟨_, e1⟩
    · cases e
    · rcases other e2 with ⟨rfl, e⟩ | ⟨_, e2⟩
      · cases e
      · exact E.io1 j k es fs e1 e2
  · rcases other e1 with ⟨rfl, e⟩ | ⟨_, e1⟩
    · cases e
    · exact E.slf j C ns es e1
  · by_cases hj : i = j
    · subst hj; exact ⟨_, List.getElem?_set_self hi⟩
    · exact ⟨c, by rw [List.getElem?_set_ne hj]; exact e1⟩
  · rcases other e1 with ⟨rfl, e⟩ | ⟨_, e1⟩
    · cases e
    · exact ⟨es, e1⟩
theorem EnvR.setIo (E : EnvR K H0 M0 A env σ H) {i : Nat} {ds out : List D} {a : Addr} {ys : List V} (hc : env[i]? = some (some (Cell.io ds))) (ha : σ[i]? = some (some (V.ref a))) (s : Stp (fun x => x = a) H H') (h' : H' a = some (.lst ys))
    (r : RepL K H' (MM M0 env σ) out ys) : EnvR K H0 M0 A (env.set i (some (Cell.io out))) σ H' ∧ Sub σ env (env.set i (some (Cell.io out))) ∧ MM M0 (env.set i (some (Cell.io out))) σ = MM M0 env σ := by
  have hi : i < env.length := (List.getElem?_eq_some_iff.mp hc).1
  obtain ⟨a', xs, sa, Aa, q, l⟩ := E.io i ds hc
  rw [ha] at sa; cases sa
  have mutI : ∀ b, MutAt (env.set i (some (Cell.io out))) σ b ↔ MutAt env σ b := fun b => by
    constructor
    · rintro ⟨j, es, e1, e2⟩
      by_cases hj : i = j
      · subst hj; rw [List.getElem?_set_self hi] at e1; cases e1
      · rw [List.getElem?_set_ne hj] at e1; exact ⟨j, es, e1, e2⟩
    · rintro ⟨j, es, e1, e2⟩
      by_cases hj : i = j
      · subst hj; rw [hc] at e1; cases e1
      · exact ⟨j, es, by rw [List.getElem?_set_ne hj]; exact e1, e2⟩
  have eM : MM M0 (env.set i (some (Cell.io out))) σ = MM M0 env σ := by
    funext b
    exact propext ⟨fun z => z.elim .inl fun q => .inr ((mutI b).mp q), fun z => z.elim .inl fun q => .inr ((mutI b).mpr q)⟩
  have Ma : MM M0 env σ a := .inl (E.aM a Aa)
  have st : Stp (MM M0 env σ) H H' := s.weak fun x e => e ▸ Ma
  have other : ∀ {j c}, (env.set i (some (Cell.io out)))[j]? = some (some c) → (i = j ∧ c = .io out) ∨ (i ≠ j ∧ env[j]? = some (some c)) := fun {j c} e1 => by
    by_cases hj : i = j
    · subst hj; rw [List.getElem?_set_self hi] at e1; cases e1; exact .inl ⟨rfl, rfl⟩
    · rw [List.getElem?_set_ne hj] at e1; exact .inr ⟨hj, e1⟩
  refine ⟨⟨by rw [List.length_set]; exact E.len, fun b o e n t => ?_, fun b h => s.mo b (E.alive b h), fun P q h => s.tb P q h (E.tb P q h), fun b hb => s.mo b (E.m0 b hb), E.aM, E.a1, fun j d' e1 => ?_, fun j es e1 => ?_, fun j es e1 => ?_, fun j k b es fs e1 e2 e3 e4 => ?_, fun j k es fs e1 e2 => ?_, fun j C ns es e1 => ?_⟩, ⟨fun b z => (mutI b).mp z, fun j c e1 => ?_, fun j es e1 => ?_, List.length_set⟩, eM⟩
  · exact s.st b o (E.old b o e n t) (fun z => n (z ▸ Aa)) t
  · rw [eM]
    rcases other e1 with ⟨rfl, e⟩ | ⟨_, e1⟩
    · cases e
    · obtain ⟨v, a1, a2⟩ := E.dat j d' e1
      exact ⟨v, a1, Rep.stp st (fun _ z => z) d' v a2⟩
  · rw [eM]
    rcases other e1 with ⟨rfl, e⟩ | ⟨hj, e1⟩
    · cases e
    · obtain ⟨b, zs, a1, a2, a3, a4, a5⟩ := E.own j es e1
      exact ⟨b, zs, a1, s.st b _ a2 (fun z => by subst z; exact a4 (E.aM b Aa)) nt_lst, RepL.stp st (fun _ z => z) es zs a3, a4, a5⟩
  · rw [eM]
    rcases other e1 with ⟨rfl, e⟩ | ⟨hj, e1⟩
    · cases e; exact ⟨a, ys, ha, Aa, h', r⟩
    · exact absurd (E.io1 i j ds es hc e1) hj
  · rcases other e1 with ⟨rfl, e⟩ | ⟨_, e1⟩
    · cases e
    · rcases other e2 with ⟨rfl, e⟩ | ⟨_, e2⟩
      · cases e
      · exact E.inj j k b es fs e1 e2 e3 e4
  · rcases other e1 with ⟨rfl, e⟩ | ⟨_, e1⟩
    · rcases other e2 with ⟨rfl, _⟩ | ⟨_, e2⟩
      · rfl
      · exact E.io1 i k ds fs hc e2
    · rcases other e2 with ⟨rfl, e⟩ | ⟨_, e2⟩
      · exact E.io1 j i es ds e1 hc
      · exact E.io1 j k es fs e1 e2
  · rcases other e1 with ⟨rfl, e⟩ | ⟨_, e1⟩
    · cases e
    · exact E.slf j C ns es e1
  · by_cases hj : i = j
    · subst hj; exact ⟨_, List.getElem?_set_self hi⟩
    · exact ⟨c, by rw [List.getElem?_set_ne hj]; exact e1⟩
  · rcases other e1 with ⟨rfl, e⟩ | ⟨_, e1⟩
    · exact ⟨ds, hc⟩
    · exact ⟨es, e1⟩
end
variable (G : Ctx) (W : WX) (K : PySem.W.Frag)
def tI (i : IR) : TE := fun σ H Q => ∃ H0 M0 A env, EnvR K H0 M0 A env σ H ∧ Sat K H0 M0 A W (ev G i env) env σ H fun o e1 H1 => ∀ v, OpdR K M0 e1 σ H1 o v → Q v H1
def tIt (i : IR) : TT := fun σ H Q => ∃ H0 M0 A env, EnvR K H0 M0 A env σ H ∧ Sat K H0 M0 A W (truR (ev G i env)) env σ H fun b e1 H1 => Q b H1
def tIs (is : List IR) : TA := fun σ H Q => ∃ H0 M0 A env, EnvR K H0 M0 A env σ H ∧ Sat K H0 M0 A W (evs G is env) env σ H fun ds e1 H1 => ∀ vs, RepL K H1 (MM M0 e1 σ) ds vs → Q vs H1
def tIr (is : List IR) : TA := fun σ H Q => ∃ H0 M0 A env, EnvR K H0 M0 A env σ H ∧ Sat K H0 M0 A W (evr G is env) env σ H fun os e1 H1 => ∀ vs, Paired (OpdR K M0 e1 σ H1) os vs → Q vs H1
def tIo (i : Option IR) : TO := fun σ H Q => ∃ H0 M0 A env, EnvR K H0 M0 A env σ H ∧ Sat K H0 M0 A W (evo G i env) env σ H fun o e1 H1 => Q o H1
def tIa (io : Option Nat) (n : Nat) (is : List IR) : TA := fun σ H Q => ∃ H0 M0 A env, EnvR K H0 M0 A env σ H ∧ Sat K H0 M0 A W (eva G io n is env) env σ H fun p e1 H1 => ∀ vs, Paired (OpdR K M0 e1 σ H1) p.1 vs → Q vs H1
end Mp
set_option maxHeartbeats 4000000
namespace Mp
open PySem L2
variable [TabsW]
section
variable {X : Cx} {G : Ctx} {W : WX}
theorem PE.by_ {e : Expr} {t t' : TE} (h : PE X e t) (i : ∀ σ H Q, t' σ H Q → t σ H Q) : PE X e t' := ⟨fun pins s σ H Q I q => h.run pins s σ H Q I (i σ H Q q)⟩
theorem PT.by_ {e : Expr} {t t' : TT} (h : PT X e t) (i : ∀ σ H Q, t' σ H Q → t σ H Q) : PT X e t' := ⟨fun pins s σ H Q I q => h.run pins s σ H Q I (i σ H Q q)⟩
theorem PW.by_ {e : Expr} {t t' : TT} (h : PW X e t) (i : ∀ σ H Q, t' σ H Q → t σ H Q) : PW X e t' := ⟨fun wh pins s σ H Q I q => h.run wh pins s σ H Q I (i σ H Q q)⟩
theorem PA.by_ {e : List Expr} {t t' : TA} (h : PA X e t) (i : ∀ σ H Q, t' σ H Q → t σ H Q) : PA X e t' := ⟨fun pos pins s σ H Q I q => h.run pos pins s σ H Q I (i σ H Q q)⟩
theorem PO.by_ {e : Option Expr} {t t' : TO} (h : PO X e t) (i : ∀ σ H Q, t' σ H Q → t σ H Q) : PO X e t' := ⟨fun pins s σ H Q I q => h.run pins s σ H Q I (i σ H Q q)⟩
theorem Stp.no {M : AS} {H H' : Hp} (s : Stp NoA H H') : Stp M H H' := s.weak fun _ z => z.elim
/-- a constant -/
theorem e_c {e : Expr} {d : D} {v : V} (h : PE X e (tC v)) (r : ∀ H M, Rep X.K H M d v) : PE X e (tI G W X.K (.c d)) := PE.by_ h fun σ H Q q => by
  obtain ⟨H0, M0, A, env, E, q⟩ := q
  unfold ev at q
  exact q H Stp.refl Sub.refl E v (r H _)
theorem e_v {x : Str} {pos : Pos} {i : Nat} (hN : X.N[i]? = some x) (hv : Vis X.env.scope x) (hd : (x == ("__debug__" : Str)) = false) (hcd : (x == ("__classdict__" : Str)) = false) : PE X (.Name x pos) (tI G W X.K (.v i)) := PE.by_ (pe_var hN hv hd hcd) fun σ H Q q => by
  obtain ⟨H0, M0, A, env, E, q⟩ := q
  unfold ev at q
  cases e : env[i]? with
  | none =>
    have : cellAt env i = none := by unfold cellAt; rw [e]; rfl
    rw [this] at q
    exact q.elim
  | some o =>
    have hc : cellAt env i = o := by unfold cellAt; rw [e]; rfl
    rw [hc] at q
    cases o with
    | none => exact q.elim
    | some c =>
      cases c with
      | dat d =>
        obtain ⟨v, s, r⟩ := E.dat i d e
        exact ⟨v, s, q H Stp.refl Sub.refl E v r⟩
      | own ds =>
        obtain ⟨a, xs, s, r⟩ := E.own i ds e
        exact ⟨_, s, q H Stp.refl Sub.refl E _ ⟨s, _, e⟩⟩
      | io ds =>
        obtain ⟨a, xs, s, r⟩ := E.io i ds e
        exact ⟨_, s, q H Stp.refl Sub.refl E _ ⟨s, _, e⟩⟩
      | slf C ns ds => exact q.elim
/-- behind the operands of a two-place operation -/
theorem op_end {K : PySem.W.Frag} {H0 H : Hp} {M0 A : AS} {env : Env} {σ : L2.St} {Q : VK} {r : R2} {f : D → D → Option D} {x y : V} {o o2 : Opd} (hs : OpS K r f) (E : EnvR K H0 M0 A env σ H) (hx : OpdR K M0 env σ H o x) (hy : OpdR K M0 env σ H o2 y)
    (h : Sat K H0 M0 A W (match rdO env o, rdO env o2 with
      | some p, some q => lift env (f p q)
      | _, _ => .bad) env σ H fun o e1 H1 => ∀ v, OpdR K M0 e1 σ H1 o v → Q v H1) : r x y H Q := by
  cases e1 : rdO env o with
  | none => rw [e1] at h; exact h.elim
  | some p =>
    cases e2 : rdO env o2 with
    | none => rw [e1, e2] at h; exact h.elim
    | some q =>
      rw [e1, e2] at h
      cases e3 : f p q with
      | none =>
        dsimp only at h
        rw [e3] at h
        exact h.elim
      | some z =>
        dsimp only at h
        rw [e3] at h
        exact hs (MM M0 env σ) x y H p q z Q (hx.rdT E e1) (hy.rdT E e2) (fun a ha => (E.fresh ha).1) e3 fun v H' st rv => h H' st.no Sub.refl (E.keep st) v rv
theorem op_read {K : PySem.W.Frag} {a b : IR} {i : IR} {r : R2} {f : D → D → Option D} (hs : OpS K r f)
    (he : ∀ env, ev G i env = (ev G a env).bind fun x e1 => (ev G b e1).bind fun y e2 => match rdO e2 x, rdO e2 y with
      | some p, some q => lift e2 (f p q)
      | _, _ => .bad) {σ : L2.St} {H : Hp} {Q : VK} (q : tI G W K i σ H Q) : tOp r (tI G W K a) (tI G W K b) σ H Q := by
  obtain ⟨H0, M0, A, env, E, q⟩ := q
  rw [he] at q
  refine ⟨H0, M0, A, env, E, (Sat.bind q).mono fun o e1 H1 _ s1 u1 E1 h1 x hx => ?_⟩
  refine ⟨H0, M0, A, e1, E1, (Sat.bind h1).mono fun o2 e2 H2 _ s2 u2 E2 h2 y hy => ?_⟩
  exact op_end hs E2 (hx.hold E1.aM s2 u2) hy h2
theorem e_op {e : Expr} {a b : IR} {i : IR} {r : R2} {f : D → D → Option D} {ta tb : TE} (h : PE X e (tOp r (tI G W X.K a) (tI G W X.K b))) (hs : OpS X.K r f)
    (he : ∀ env, ev G i env = (ev G a env).bind fun x e1 => (ev G b e1).bind fun y e2 => match rdO e2 x, rdO e2 y with
      | some p, some q => lift e2 (f p q)
      | _, _ => .bad) : PE X e (tI G W X.K i) := PE.by_ h fun σ H Q q => op_read hs he q
theorem e_bin {a b : Expr} {op : Operator} {op' : BOp} {a' b' : IR} {r : R2} {pos : Pos} (ho : OpR X (binaryOp op) r) (hs : OpS X.K r (binD op')) (ha : PE X a (tI G W X.K a')) (hb : PE X b (tI G W X.K b')) : PE X (.BinOp a op b pos) (tI G W X.K (.bin op' a' b')) :=
  e_op (ta := tI G W X.K a') (tb := tI G W X.K b') (pe_op ho ha hb) hs fun env => by first | (rw [ev]; done) | (rw [ev]; rfl)
theorem e_cmp {a b : Expr} {op : CmpOp} {op' : COp} {a' b' : IR} {r : R2} {pos : Pos} (ho : OpR X (compareOp op) r) (hs : CmS X.K r op') (ha : PE X a (tI G W X.K a')) (hb : PE X b (tI G W X.K b')) (hm : behindInMarks op b = false) : PE X (.Compare a [op] [b] pos) (tI G W X.K (.cmp op' a' b')) :=
  e_op (ta := tI G W X.K a') (tb := tI G W X.K b') (pe_cmpR ho ha hb hm) hs fun env => by first | (rw [ev]; done) | (rw [ev]; rfl)
theorem e_ix {a b : Expr} {a' b' : IR} {pos : Pos} (ha : PE X a (tI G W X.K a')) (hb : PE X b (tI G W X.K b')) (hp : PlainIx b) : PE X (.Subscript a b pos) (tI G W X.K (.ix a' b')) :=
  e_op (ta := tI G W X.K a') (tb := tI G W X.K b') (pe_ix (r := rOr (rIxL X.K) (rIxT X.K)) (ix_list.or ix_tup) ha hb hp) s_ix fun env => by first | (rw [ev]; done) | (rw [ev]; rfl)
/-- a value tested -/
theorem tru_end {K : PySem.W.Frag} {H0 H : Hp} {M0 A : AS} {env : Env} {σ : L2.St} {o : Opd} {x : V} {b : Bool} (E : EnvR K H0 M0 A env σ H) (hx : OpdR K M0 env σ H o x) (h : (rdO env o).bind truD = some b) : TruV K x H b := by
  cases e1 : rdO env o with
  | none => rw [e1] at h; cases h
  | some p =>
    rw [e1] at h
    exact truV_of (hx.rdT E e1).loose h
theorem e_and {a b : Expr} {rest : List Expr} {a' b' : IR} {pos : Pos} (ha : PE X a (tI G W X.K a')) (hb : PE X (.BoolOp .And (b :: rest) pos) (tI G W X.K b')) : PE X (.BoolOp .And (a :: b :: rest) pos) (tI G W X.K (.and_ a' b')) := PE.by_ (pe_andT ha hb) fun σ H Q q => by
  obtain ⟨H0, M0, A, env, E, q⟩ := q
  unfold ev at q
  refine ⟨H0, M0, A, env, E, (Sat.bind q).mono fun o e1 H1 _ s1 u1 E1 h1 x hx => ?_⟩
  cases e : (rdO e1 o).bind truD with
  | none => rw [e] at h1; exact h1.elim
  | some k =>
    rw [e] at h1
    refine ⟨k, tru_end E1 hx e, ?_⟩
    cases k with
    | true => exact ⟨H0, M0, A, e1, E1, h1⟩
    | false => exact h1 H1 Stp.refl Sub.refl E1 x hx
theorem e_or {a b : Expr} {rest : List Expr} {a' b' : IR} {pos : Pos} (ha : PE X a (tI G W X.K a')) (hb : PE X (.BoolOp .Or (b :: rest) pos) (tI G W X.K b')) : PE X (.BoolOp .Or (a :: b :: rest) pos) (tI G W X.K (.or_ a' b')) := PE.by_ (pe_orT ha hb) fun σ H Q q => by
  obtain ⟨H0, M0, A, env, E, q⟩ := q
  unfold ev at q
  refine ⟨H0, M0, A, env, E, (Sat.bind q).mono fun o e1 H1 _ s1 u1 E1 h1 x hx => ?_⟩
  cases e : (rdO e1 o).bind truD with
  | none => rw [e] at h1; exact h1.elim
  | some k =>
    rw [e] at h1
    refine ⟨k, tru_end E1 hx e, ?_⟩
    cases k with
    | false => exact ⟨H0, M0, A, e1, E1, h1⟩
    | true => exact h1 H1 Stp.refl Sub.refl E1 x hx
theorem e_not {a : Expr} {a' : IR} {pos : Pos} (ha : PE X a (tI G W X.K a')) : PE X (.UnaryOp .Not a pos) (tI G W X.K (.not_ a')) := PE.by_ (pe_notT ha) fun σ H Q q => by
  obtain ⟨H0, M0, A, env, E, q⟩ := q
  unfold ev at q
  refine ⟨H0, M0, A, env, E, (Sat.bind q).mono fun o e1 H1 _ s1 u1 E1 h1 x hx => ?_⟩
  cases e : (rdO e1 o).bind truD with
  | none => rw [e] at h1; exact h1.elim
  | some k =>
    rw [e] at h1
    exact ⟨k, tru_end E1 hx e, h1 H1 Stp.refl Sub.refl E1 _ (rep_bl (K := X.K) (H := H1) (M := MM M0 e1 σ) _)⟩
theorem e_neg {a : Expr} {a' : IR} {pos : Pos} (ha : PE X a (tI G W X.K a')) : PE X (.UnaryOp .USub a pos) (tI G W X.K (.neg a')) := PE.by_ (pe_un un_neg ha) fun σ H Q q => by
  obtain ⟨H0, M0, A, env, E, q⟩ := q
  unfold ev at q
  refine ⟨H0, M0, A, env, E, (Sat.bind q).mono fun o e1 H1 _ s1 u1 E1 h1 x hx => ?_⟩
  cases o with
  | pl i => exact h1.elim
  | val d =>
    cases d with
    | int i =>
      have hx' : Rep X.K H1 (MM M0 e1 σ) (.int i) x := hx
      unfold Rep at hx'
      exact ⟨i, hx', h1 H1 Stp.refl Sub.refl E1 _ (rep_int (K := X.K) (H := H1) (M := MM M0 e1 σ) _)⟩
    | _ => exact h1.elim
/-- tests -/
theorem t_truth {a : Expr} {a' : IR} (ha : PE X a (tI G W X.K a')) (he : ∀ whole, isTrue a X.env whole = (do let v ← whole; standAt a.pos; holding [v] (truthy v))) : PT X a (tIt G W X.K a') := PT.by_ (pt_truth ha he) fun σ H Q q => by
  obtain ⟨H0, M0, A, env, E, q⟩ := q
  unfold truR at q
  refine ⟨H0, M0, A, env, E, (Sat.bind q).mono fun o e1 H1 _ s1 u1 E1 h1 x hx => ?_⟩
  cases e : (rdO e1 o).bind truD with
  | none => rw [e] at h1; exact h1.elim
  | some k =>
    rw [e] at h1
    exact ⟨k, tru_end E1 hx e, h1 H1 Stp.refl Sub.refl E1⟩
end
end Mp
set_option maxHeartbeats 4000000
namespace Mp
open PySem L2
variable [TabsW]
theorem R.bind_assoc {α β γ : Type} (r : R α) (f : α → Env → R β) (g : β → Env → R γ) : (r.bind f).bind g = r.bind fun a e => (f a e).bind g := by cases r <;> rfl
theorem tru_not {G : Ctx} {a : IR} {env : Env} : truR (ev G (.not_ a) env) = (truR (ev G a env)).bind fun b e1 => .ok (!b) e1 := by
  rw [ev]
  unfold truR
  rw [R.bind_assoc, R.bind_assoc]
  congr 1
  funext x e1
  cases h : (rdO e1 x).bind truD <;> rfl
theorem tru_and {G : Ctx} {a b : IR} {env : Env} : truR (ev G (.and_ a b) env) = (truR (ev G a env)).bind fun c e1 => if c then truR (ev G b e1) else .ok false e1 := by
  rw [ev]
  unfold truR
  rw [R.bind_assoc, R.bind_assoc]
  congr 1
  funext x e1
  cases h : (rdO e1 x).bind truD with
  | none => rfl
  | some c =>
    cases c with
    | true => rfl
    | false =>
      show (match (rdO e1 x).bind truD with | some b => R.ok b e1 | none => R.bad) = _
      rw [h]; rfl
theorem tru_or {G : Ctx} {a b : IR} {env : Env} : truR (ev G (.or_ a b) env) = (truR (ev G a env)).bind fun c e1 => if c then .ok true e1 else truR (ev G b e1) := by
  rw [ev]
  unfold truR
  rw [R.bind_assoc, R.bind_assoc]
  congr 1
  funext x e1
  cases h : (rdO e1 x).bind truD with
  | none => rfl
  | some c =>
    cases c with
    | false => rfl
    | true =>
      show (match (rdO e1 x).bind truD with | some b => R.ok b e1 | none => R.bad) = _
      rw [h]; rfl
section
variable {X : Cx} {G : Ctx} {W : WX}
theorem t_not {a : Expr} {a' : IR} {pos : Pos} (ha : PT X a (tIt G W X.K a')) : PT X (.UnaryOp .Not a pos) (tIt G W X.K (.not_ a')) := PT.by_ (pt_not ha) fun σ H Q q => by
  obtain ⟨H0, M0, A, env, E, q⟩ := q
  rw [tru_not] at q
  exact ⟨H0, M0, A, env, E, (Sat.bind q).mono fun b e1 H1 _ s1 u1 E1 h1 => h1 H1 Stp.refl Sub.refl E1⟩
theorem w_and1 {a : Expr} {a' : IR} {pos : Pos} (ha : PT X a (tIt G W X.K a')) : PW X (.BoolOp .And [a] pos) (tIt G W X.K a') := pw_and1 ha
theorem w_or1 {a : Expr} {a' : IR} {pos : Pos} (ha : PT X a (tIt G W X.K a')) : PW X (.BoolOp .Or [a] pos) (tIt G W X.K a') := pw_or1 ha
theorem w_and {a b : Expr} {rest : List Expr} {a' b' : IR} {pos : Pos} (ha : PT X a (tIt G W X.K a')) (hb : PW X (.BoolOp .And (b :: rest) pos) (tIt G W X.K b')) : PW X (.BoolOp .And (a :: b :: rest) pos) (tIt G W X.K (.and_ a' b')) := PW.by_ (pw_and ha hb) fun σ H Q q => by
  obtain ⟨H0, M0, A, env, E, q⟩ := q
  rw [tru_and] at q
  refine ⟨H0, M0, A, env, E, (Sat.bind q).mono fun c e1 H1 _ s1 u1 E1 h1 => ?_⟩
  cases c with
  | true => exact ⟨H0, M0, A, e1, E1, h1⟩
  | false => exact h1 H1 Stp.refl Sub.refl E1
theorem w_or {a b : Expr} {rest : List Expr} {a' b' : IR} {pos : Pos} (ha : PT X a (tIt G W X.K a')) (hb : PW X (.BoolOp .Or (b :: rest) pos) (tIt G W X.K b')) : PW X (.BoolOp .Or (a :: b :: rest) pos) (tIt G W X.K (.or_ a' b')) := PW.by_ (pw_or ha hb) fun σ H Q q => by
  obtain ⟨H0, M0, A, env, E, q⟩ := q
  rw [tru_or] at q
  refine ⟨H0, M0, A, env, E, (Sat.bind q).mono fun c e1 H1 _ s1 u1 E1 h1 => ?_⟩
  cases c with
  | false => exact ⟨H0, M0, A, e1, E1, h1⟩
  | true => exact h1 H1 Stp.refl Sub.refl E1
/-- a value that is a truth, as a test -/
theorem tru_val {K : PySem.W.Frag} {i : IR} (hb : ∀ env o e1, ev G i env = .ok o e1 → ∃ k, o = .val (.bl k)) {σ : L2.St} {H : Hp} {Q : Bool → Hp → Prop} (q : tIt G W K i σ H Q) : tI G W K i σ H fun v H1 => ∃ k, v = .bl k ∧ Q k H1 := by
  obtain ⟨H0, M0, A, env, E, q⟩ := q
  refine ⟨H0, M0, A, env, E, ?_⟩
  cases e : ev G i env with
  | bad => rw [e] at q; exact q.elim
  | exc C f d e1 => rw [e] at q; exact q
  | ok o e1 =>
    obtain ⟨k, rfl⟩ := hb env o e1 e
    rw [e] at q
    intro H1 s1 u1 E1 v hv
    have hv' : Rep K H1 (MM M0 e1 σ) (.bl k) v := hv
    unfold Rep at hv'
    exact ⟨k, hv', q H1 s1 u1 E1⟩
theorem cmp_bool {op' : COp} {a' b' : IR} : ∀ env o e1, ev G (.cmp op' a' b') env = .ok o e1 → ∃ k, o = .val (.bl k) := fun env o e1 h => by
  rw [ev] at h
  cases h1 : ev G a' env with
  | bad => rw [h1] at h; cases h
  | exc C f d e => rw [h1] at h; cases h
  | ok x e2 =>
    rw [h1] at h
    have h : ((ev G b' e2).bind fun y e2 => match rdO e2 x, rdO e2 y with | some p, some q => lift e2 ((cmpD op' p q).map .bl) | _, _ => .bad) = .ok o e1 := h
    cases h2 : ev G b' e2 with
    | bad => rw [h2] at h; cases h
    | exc C f d e => rw [h2] at h; cases h
    | ok y e3 =>
      rw [h2] at h
      have h : (match rdO e3 x, rdO e3 y with | some p, some q => lift e3 ((cmpD op' p q).map .bl) | _, _ => .bad) = R.ok o e1 := h
      cases h3 : rdO e3 x with
      | none => rw [h3] at h; cases h
      | some p =>
        cases h4 : rdO e3 y with
        | none => rw [h3, h4] at h; cases h
        | some q =>
          rw [h3, h4] at h
          have h : lift e3 ((cmpD op' p q).map .bl) = R.ok o e1 := h
          cases h5 : cmpD op' p q with
          | none => rw [h5] at h; cases h
          | some k => rw [h5] at h; cases h; exact ⟨k, rfl⟩
theorem t_cmp {a b : Expr} {op : CmpOp} {op' : COp} {a' b' : IR} {r : R2} {pos : Pos} (ho : OpR X (compareOp op) r) (hs : CmS X.K r op') (ha : PE X a (tI G W X.K a')) (hb : PE X b (tI G W X.K b')) (hm : behindInMarks op b = false) : PT X (.Compare a [op] [b] pos) (tIt G W X.K (.cmp op' a' b')) :=
  PT.by_ (pt_cmpR ho ha hb hm) fun σ H Q q => op_read hs (fun env => by first | (rw [ev]; done) | (rw [ev]; rfl)) (tru_val cmp_bool q)
theorem e_ite {t a b : Expr} {t' a' b' : IR} {pos : Pos} (ht : PT X t (tIt G W X.K t')) (ha : PE X a (tI G W X.K a')) (hb : PE X b (tI G W X.K b')) : PE X (.IfExp t a b pos) (tI G W X.K (.ite t' a' b')) := PE.by_ (pe_ifExp ht ha hb) fun σ H Q q => by
  obtain ⟨H0, M0, A, env, E, q⟩ := q
  rw [ev] at q
  refine ⟨H0, M0, A, env, E, (Sat.bind q).mono fun c e1 H1 _ s1 u1 E1 h1 => ?_⟩
  cases c with
  | true => exact ⟨H0, M0, A, e1, E1, h1⟩
  | false => exact ⟨H0, M0, A, e1, E1, h1⟩
def starB : Expr → Bool
  | .Starred _ _ => true
  | _ => false
theorem star_cons {e : Expr} {es : List Expr} {env : PySem.Env} (h : starB e = false) : starEach (e :: es) env = (false, eval e env) :: starEach es env := by
  cases e <;> first | rfl | cases h
theorem star_none {pos : Pos} {env : PySem.Env} : ∀ {es : List Expr}, es.any starB = false → (backTo pos (starEach es env)).any (·.1) = false
  | [], _ => rfl
  | e :: es, h => by
    rw [List.any_cons, Bool.or_eq_false_iff] at h
    rw [star_cons h.1]
    show (false || (backTo pos (starEach es env)).any (·.1)) = false
    rw [star_none h.2] <;> rfl
theorem as_nil : PA X [] (tIs G W X.K []) := PA.by_ pa_nil fun σ H Q q => by
  obtain ⟨H0, M0, A, env, E, q⟩ := q
  rw [evs] at q
  exact q H Stp.refl Sub.refl E [] RepL.nil
theorem as_cons {e : Expr} {es : List Expr} {i : IR} {is : List IR} (ha : PE X e (tI G W X.K i)) (hr : PA X es (tIs G W X.K is)) (hs : starB e = false) : PA X (e :: es) (tIs G W X.K (i :: is)) := PA.by_ (pa_cons ha hr (star_cons hs)) fun σ H Q q => by
  obtain ⟨H0, M0, A, env, E, q⟩ := q
  rw [evs] at q
  unfold R.take at q
  rw [R.bind_assoc] at q
  refine ⟨H0, M0, A, env, E, (Sat.bind q).mono fun o e1 H1 _ s1 u1 E1 h1 x hx => ?_⟩
  cases e : takeO e1 o with
  | none => rw [e] at h1; exact h1.elim
  | some p =>
    obtain ⟨d, e2⟩ := p
    rw [e] at h1
    obtain ⟨E2, rd, u2⟩ := E1.take hx e
    have h2 : Sat X.K H0 M0 A W ((evs G is e2).bind fun ds e3 => .ok (d :: ds) e3) e1 σ H1 (fun ds e1 H1 => ∀ vs, RepL X.K H1 (MM M0 e1 σ) ds vs → Q vs H1) := h1
    have h3 : Sat X.K H0 M0 A W ((evs G is e2).bind fun ds e3 => .ok (d :: ds) e3) e2 σ H1 (fun ds e1 H1 => ∀ vs, RepL X.K H1 (MM M0 e1 σ) ds vs → Q vs H1) := h2.sub u2
    refine ⟨H0, M0, A, e2, E2, (Sat.bind h3).mono fun ds e3 H3 _ s3 u3 E3 h4 vs hv => ?_⟩
    exact h4 H3 Stp.refl Sub.refl E3 (x :: vs) (RepL.cons (hold rd E2.aM s3 u3) hv)
end
end Mp
set_option maxHeartbeats 4000000
namespace Mp
open PySem L2
variable [TabsW]
section
variable {X : Cx} {G : Ctx} {W : WX}
theorem ar_nil : PA X [] (tIr G W X.K []) := PA.by_ pa_nil fun σ H Q q => by
  obtain ⟨H0, M0, A, env, E, q⟩ := q
  rw [evr] at q
  exact q H Stp.refl Sub.refl E [] .nil
theorem ar_cons {e : Expr} {es : List Expr} {i : IR} {is : List IR} (ha : PE X e (tI G W X.K i)) (hr : PA X es (tIr G W X.K is)) (hs : starB e = false) : PA X (e :: es) (tIr G W X.K (i :: is)) := PA.by_ (pa_cons ha hr (star_cons hs)) fun σ H Q q => by
  obtain ⟨H0, M0, A, env, E, q⟩ := q
  rw [evr] at q
  refine ⟨H0, M0, A, env, E, (Sat.bind q).mono fun o e1 H1 _ s1 u1 E1 h1 x hx => ?_⟩
  refine ⟨H0, M0, A, e1, E1, (Sat.bind h1).mono fun os e2 H2 _ s2 u2 E2 h2 vs hv => ?_⟩
  exact h2 H2 Stp.refl Sub.refl E2 (x :: vs) (.cons (hx.hold E1.aM s2 u2) hv)
theorem aa_nil {io : Option Nat} {n : Nat} : PA X [] (tIa G W X.K io n []) := PA.by_ pa_nil fun σ H Q q => by
  obtain ⟨H0, M0, A, env, E, q⟩ := q
  rw [eva] at q
  exact q H Stp.refl Sub.refl E [] .nil
theorem aa_cons {e : Expr} {es : List Expr} {i : IR} {is : List IR} {io : Option Nat} {n : Nat} (ha : PE X e (tI G W X.K i)) (hr : PA X es (tIa G W X.K io (n + 1) is)) (hs : starB e = false) : PA X (e :: es) (tIa G W X.K io n (i :: is)) := PA.by_ (pa_cons ha hr (star_cons hs)) fun σ H Q q => by
  obtain ⟨H0, M0, A, env, E, q⟩ := q
  rw [eva] at q
  by_cases hio : io = some n
  · rw [if_pos hio] at q
    refine ⟨H0, M0, A, env, E, (Sat.bind q).mono fun o e1 H1 _ s1 u1 E1 h1 x hx => ?_⟩
    cases o with
    | val d => exact h1.elim
    | pl j =>
      refine ⟨H0, M0, A, e1, E1, (Sat.bind h1).mono fun p e2 H2 _ s2 u2 E2 h2 vs hv => ?_⟩
      exact h2 H2 Stp.refl Sub.refl E2 (x :: vs) (.cons (hx.hold E1.aM s2 u2) hv)
  · rw [if_neg hio] at q
    unfold R.take at q
    rw [R.bind_assoc] at q
    refine ⟨H0, M0, A, env, E, (Sat.bind q).mono fun o e1 H1 _ s1 u1 E1 h1 x hx => ?_⟩
    cases e : takeO e1 o with
    | none => rw [e] at h1; exact h1.elim
    | some p =>
      obtain ⟨d, e2⟩ := p
      rw [e] at h1
      obtain ⟨E2, rd, u2⟩ := E1.take hx e
      have h2 : Sat X.K H0 M0 A W ((eva G io (n + 1) is e2).bind fun p e3 => .ok (.val d :: p.1, p.2) e3) e1 σ H1 (fun p e1 H1 => ∀ vs, Paired (OpdR X.K M0 e1 σ H1) p.1 vs → Q vs H1) := h1
      refine ⟨H0, M0, A, e2, E2, (Sat.bind (h2.sub u2)).mono fun p e3 H3 _ s3 u3 E3 h4 vs hv => ?_⟩
      exact h4 H3 Stp.refl Sub.refl E3 (x :: vs) (.cons (show OpdR X.K M0 e3 σ H3 (.val d) x from hold rd E2.aM s3 u3) hv)
theorem po_none' : PO X none (tIo G W X.K none) := PO.by_ po_none fun σ H Q q => by
  obtain ⟨H0, M0, A, env, E, q⟩ := q
  rw [evo] at q
  exact q H Stp.refl Sub.refl E
theorem po_some' {e : Expr} {i : IR} (h : PE X e (tI G W X.K i)) : PO X (some e) (tIo G W X.K (some i)) := PO.by_ (po_some h) fun σ H Q q => by
  obtain ⟨H0, M0, A, env, E, q⟩ := q
  rw [evo] at q
  unfold R.rd at q
  rw [R.bind_assoc] at q
  refine ⟨H0, M0, A, env, E, (Sat.bind q).mono fun o e1 H1 _ s1 u1 E1 h1 x hx => ?_⟩
  cases e : rdO e1 o with
  | none => rw [e] at h1; exact h1.elim
  | some d =>
    rw [e] at h1
    cases d with
    | int k =>
      have := (hx.rdT E1 e).int
      exact ⟨k, this, h1 H1 Stp.refl Sub.refl E1⟩
    | _ => exact h1.elim
theorem e_tup {es : List Expr} {is : List IR} {k : Nat} {pos : Pos} (h : PA X es (tIs G W X.K is)) : PE X (.Tuple es k pos) (tI G W X.K (.tup is)) := PE.by_ (pe_tup h) fun σ H Q q => by
  obtain ⟨H0, M0, A, env, E, q⟩ := q
  rw [ev] at q
  refine ⟨H0, M0, A, env, E, (Sat.bind q).mono fun ds e1 H1 _ s1 u1 E1 h1 xs hx => ?_⟩
  have hs : sizeLine = 16777216 := sizeLine_eq
  by_cases hl : ds.length ≤ BIG
  · rw [if_pos hl] at h1
    refine ⟨by rw [← hx.length]; unfold BIG at hl; omega, fun p hp => ?_⟩
    exact h1 _ (Stp.new hp) Sub.refl (E1.new hp) _ (rep_newT hp (E1.fresh hp).1 hx)
  · rw [if_neg hl] at h1; exact h1.elim
theorem e_lst {es : List Expr} {is : List IR} {pos : Pos} (h : PA X es (tIs G W X.K is)) : PE X (.List es pos) (tI G W X.K (.lst is)) := PE.by_ (pe_lst h) fun σ H Q q => by
  obtain ⟨H0, M0, A, env, E, q⟩ := q
  rw [ev] at q
  refine ⟨H0, M0, A, env, E, (Sat.bind q).mono fun ds e1 H1 _ s1 u1 E1 h1 xs hx => ?_⟩
  have hs : sizeLine = 16777216 := sizeLine_eq
  by_cases hl : ds.length ≤ BIG
  · rw [if_pos hl] at h1
    refine ⟨by rw [← hx.length]; unfold BIG at hl; omega, fun p hp => ?_⟩
    exact h1 _ (Stp.new hp) Sub.refl (E1.new hp) _ (rep_new hp (E1.fresh hp).1 hx)
  · rw [if_neg hl] at h1; exact h1.elim
theorem RepL.cut {K : PySem.W.Frag} {H : Hp} {M : AS} {ds : List D} {xs : List V} (r : RepL K H M ds xs) (lo hi : Option Int) : RepL K H M (cutD ds lo hi) (cutV xs lo hi) := by
  unfold cutD cutV
  rw [r.length]
  exact (r.drop _).take _
theorem e_sl {a : Expr} {lo hi : Option Expr} {a' : IR} {lo' hi' : Option IR} {p2 pos : Pos} (ha : PE X a (tI G W X.K a')) (hl : PO X lo (tIo G W X.K lo')) (hh : PO X hi (tIo G W X.K hi')) : PE X (.Subscript a (.Slice lo hi none p2) pos) (tI G W X.K (.sl a' lo' hi')) := PE.by_ (pe_slice sl_list ha hl hh) fun σ H Q q => by
  obtain ⟨H0, M0, A, env, E, q⟩ := q
  rw [ev] at q
  refine ⟨H0, M0, A, env, E, (Sat.bind q).mono fun o e1 H1 _ s1 u1 E1 h1 x hx => ?_⟩
  refine ⟨H0, M0, A, e1, E1, (Sat.bind h1).mono fun i e2 H2 _ s2 u2 E2 h2 => ?_⟩
  refine ⟨H0, M0, A, e2, E2, (Sat.bind h2).mono fun j e3 H3 _ s3 u3 E3 h3 => ?_⟩
  have hx3 := (hx.hold E1.aM s2 u2).hold E2.aM s3 u3
  cases e : rdO e3 o with
  | none => rw [e] at h3; exact h3.elim
  | some p =>
    rw [e] at h3
    cases p with
    | lst ds =>
      obtain ⟨b, xs, rfl, hr, rr⟩ := hx3.rdT E3 e
      exact ⟨b, xs, rfl, hr, fun p hp => h3 _ (Stp.new hp) Sub.refl (E3.new hp) _ (rep_new hp (E3.fresh hp).1 (rr.cut i j))⟩
    | _ => exact h3.elim
theorem ops_rd {K : PySem.W.Frag} {H0 H : Hp} {M0 A : AS} {env : Env} {σ : L2.St} (E : EnvR K H0 M0 A env σ H) : ∀ {os : List Opd} {vs : List V} {ds : List D}, Paired (OpdR K M0 env σ H) os vs → os.mapM (rdO env) = some ds → Paired (RepT K H (MM M0 env σ)) ds vs
  | [], _, ds, .nil, e => by
    rw [List.mapM_nil] at e
    cases e; exact .nil
  | o :: os, _, ds, .cons r t, e => by
    rw [List.mapM_cons] at e
    cases e1 : rdO env o with
    | none => rw [e1] at e; cases e
    | some d =>
      cases e2 : os.mapM (rdO env) with
      | none => rw [e1, e2] at e; cases e
      | some ds' =>
        rw [e1, e2] at e
        cases e
        exact .cons (r.rdT E e1) (ops_rd E t e2)
theorem blt_read {K : PySem.W.Frag} {b : Blt} {is : List IR} {r : List V → Hp → VK → Prop} (hs : CaS K r (bltD b)) {σ : L2.St} {H : Hp} {Q : VK} (q : tI G W K (.blt b is) σ H Q) : tCB r (tIr G W K is) σ H Q := by
  obtain ⟨H0, M0, A, env, E, q⟩ := q
  rw [ev] at q
  refine ⟨H0, M0, A, env, E, (Sat.bind q).mono fun os e1 H1 _ s1 u1 E1 h1 xs hx => ?_⟩
  cases e : os.mapM (rdO e1) with
  | none => rw [e] at h1; exact h1.elim
  | some ds =>
    rw [e] at h1
    cases e2 : bltD b ds with
    | none => dsimp only at h1; rw [e2] at h1; exact h1.elim
    | some z =>
      dsimp only at h1
      rw [e2] at h1
      exact hs (MM M0 e1 σ) xs H1 ds z Q (ops_rd E1 hx e) (fun a ha => (E1.fresh ha).1) e2 fun v H' st rv => h1 H' st.no Sub.refl (E1.keep st) v rv
theorem e_bltF {e : Expr} {es : List Expr} {is : List IR} {b : Blt} {r : List V → Hp → VK → Prop} {x : Str} {id : String} {p pos : Pos} (hc : CallR X (.builtin id) r) (hs : CaS X.K r (bltD b)) (hg : Gl X x) (hm : X.mg x = none) (hv : bootBuiltins x = some (.builtin id))
    (ha : PA X (e :: es) (tIr G W X.K is)) (h1 : (e :: es).any starB = false) (hn : x ≠ "__name__") (hd : (x == ("__debug__" : Str)) = false) : PE X (.Call (.Name x p) (e :: es) [] pos) (tI G W X.K (.blt b is)) := by
  rw [List.any_cons, Bool.or_eq_false_iff] at h1
  exact PE.by_ (pe_callB hc hg hm hv ha hn hd (star_cons h1.1) (star_none h1.2)) fun σ H Q q => blt_read hs q
theorem e_bltT {e : Expr} {es : List Expr} {is : List IR} {b : Blt} {r : List V → Hp → VK → Prop} {x : Str} {id : String} {p pos : Pos} (hc : CallR X (.type id) r) (hs : CaS X.K r (bltD b)) (hg : Gl X x) (hm : X.mg x = none) (hv : bootBuiltins x = some (.type id))
    (ha : PA X (e :: es) (tIr G W X.K is)) (h1 : (e :: es).any starB = false) (hn : x ≠ "__name__") (hd : (x == ("__debug__" : Str)) = false) : PE X (.Call (.Name x p) (e :: es) [] pos) (tI G W X.K (.blt b is)) := by
  rw [List.any_cons, Bool.or_eq_false_iff] at h1
  exact PE.by_ (pe_callTy hc hg hm hv ha hn hd (star_cons h1.1) (star_none h1.2)) fun σ H Q q => blt_read hs q
end
end Mp
set_option maxHeartbeats 4000000
namespace Mp
open PySem L2
variable [TabsW]
/-- the slots handed over for change: what eva's second part says of the first -/
def IoOps (io : Option Nat) (n : Nat) (os : List Opd) (is : List Nat) : Prop :=
  (∀ (m i : Nat), os[m]? = some (.pl i) → io = some (n + m)) ∧ (∀ (m : Nat), io = some (n + m) → m < os.length → ∃ i, os[m]? = some (.pl i) ∧ is = [i]) ∧ (∀ i ∈ is, ∃ m, io = some (n + m) ∧ m < os.length)
theorem eva_ops (G : Ctx) (io : Option Nat) : ∀ (es : List IR) (n : Nat) (env : Env) (p : List Opd × List Nat) (e1 : Env), eva G io n es env = .ok p e1 → IoOps io n p.1 p.2 ∧ ((∀ m, io = some m → m < n) → p.2 = [])
  | [], n, env, p, e1, h => by
    rw [eva] at h
    cases h
    exact ⟨⟨fun m i e => by simp at e, fun m _ hl => by simp at hl, fun i hi => by simp at hi⟩, fun _ => rfl⟩
  | e :: es, n, env, p, e1, h => by
    rw [eva] at h
    by_cases hio : io = some n
    · rw [if_pos hio] at h
      cases h1 : ev G e env with
      | bad => rw [h1] at h; cases h
      | exc C f d e2 => rw [h1] at h; cases h
      | ok o e2 =>
        rw [h1] at h
        cases o with
        | val d => cases h
        | pl i =>
          have h : ((eva G io (n + 1) es e2).bind fun p e2 => R.ok (Opd.pl i :: p.1, i :: p.2) e2) = .ok p e1 := h
          cases h2 : eva G io (n + 1) es e2 with
          | bad => rw [h2] at h; cases h
          | exc C f d e3 => rw [h2] at h; cases h
          | ok q e3 =>
            rw [h2] at h
            cases h
            obtain ⟨⟨a, b, c⟩, d⟩ := eva_ops G io es (n + 1) e2 q _ h2
            have hq : q.2 = [] := d fun m hm => by rw [hio] at hm; cases hm; omega
            refine ⟨⟨fun m j e => ?_, fun m hm hl => ?_, fun j hj => ⟨0, hio, by simp⟩⟩, fun z => ?_⟩
            · cases m with
              | zero => exact hio
              | succ m =>
                have := a m j (by simpa using e)
                rw [this]; congr 1; omega
            · have : m = 0 := by rw [hio] at hm; injection hm with hm; omega
              subst this
              exact ⟨i, rfl, by rw [hq]⟩
            · have := z n hio; omega
    · rw [if_neg hio] at h
      cases h1 : (ev G e env).take with
      | bad => rw [h1] at h; cases h
      | exc C f d e2 => rw [h1] at h; cases h
      | ok d e2 =>
        rw [h1] at h
        have h : ((eva G io (n + 1) es e2).bind fun p e2 => R.ok (Opd.val d :: p.1, p.2) e2) = .ok p e1 := h
        cases h2 : eva G io (n + 1) es e2 with
        | bad => rw [h2] at h; cases h
        | exc C f d e3 => rw [h2] at h; cases h
        | ok q e3 =>
          rw [h2] at h
          cases h
          obtain ⟨⟨a, b, c⟩, d'⟩ := eva_ops G io es (n + 1) e2 q _ h2
          refine ⟨⟨fun m j e => ?_, fun m hm hl => ?_, fun j hj => let ⟨m, a1, a2⟩ := c j hj; ⟨m + 1, by rw [a1]; congr 1; omega, by simpa using a2⟩⟩, fun z => d' fun m hm => by have := z m hm; omega⟩
          · cases m with
            | zero => simp at e
            | succ m =>
              have := a m j (by simpa using e)
              rw [this]; congr 1; omega
          · cases m with
            | zero => exact absurd hm hio
            | succ m =>
              have hl' : m < q.1.length := by simpa using hl
              obtain ⟨i, e1, e2⟩ := b m (by rw [hm]; congr 1; omega) hl'
              exact ⟨i, by simpa using e1, e2⟩
theorem Paired.get {α β : Type} {F : α → β → Prop} : ∀ {xs : List α} {ys : List β} {i : Nat} {x : α} {y : β}, Paired F xs ys → xs[i]? = some x → ys[i]? = some y → F x y
  | _, _, _, _, _, .nil, h, _ => by simp at h
  | _, _, 0, _, _, .cons r _, h1, h2 => by simp at h1 h2; subst h1; subst h2; exact r
  | _, _, i + 1, _, _, .cons _ t, h1, h2 => Paired.get (i := i) t (by simpa using h1) (by simpa using h2)
theorem mapM_get {env : Env} : ∀ {os : List Opd} {ds : List D} {i : Nat} {d : D}, os.mapM (rdO env) = some ds → ds[i]? = some d → ∃ o, os[i]? = some o ∧ rdO env o = some d
  | [], ds, i, d, h, e => by
    rw [List.mapM_nil] at h; cases h; simp at e
  | o :: os, ds, i, d, h, e => by
    rw [List.mapM_cons] at h
    cases e1 : rdO env o with
    | none => rw [e1] at h; cases h
    | some d' =>
      cases e2 : os.mapM (rdO env) with
      | none => rw [e1, e2] at h; cases h
      | some ds' =>
        rw [e1, e2] at h
        cases h
        cases i with
        | zero => simp at e; subst e; exact ⟨o, rfl, e1⟩
        | succ i =>
          obtain ⟨o', a, b⟩ := mapM_get (i := i) e2 (by simpa using e)
          exact ⟨o', by simpa using a, b⟩
theorem mapM_len {env : Env} : ∀ {os : List Opd} {ds : List D}, os.mapM (rdO env) = some ds → ds.length = os.length
  | [], ds, h => by rw [List.mapM_nil] at h; cases h; rfl
  | o :: os, ds, h => by
    rw [List.mapM_cons] at h
    cases e1 : rdO env o with
    | none => rw [e1] at h; cases h
    | some d' =>
      cases e2 : os.mapM (rdO env) with
      | none => rw [e1, e2] at h; cases h
      | some ds' =>
        rw [e1, e2] at h
        cases h
        simp [mapM_len e2]
section
variable {X : Cx} {G : Ctx} {W : WX}
/-- a call's end: what the def promises is what frR says -/
theorem call_end {K : PySem.W.Frag} {H0 H : Hp} {M0 A : AS} {env : Env} {σ : L2.St} {Q : VK} {n : Nat} {io : Option Nat} {F : List D → FR} {os : List Opd} {is : List Nat} {ds : List D} {vs : List V} (E : EnvR K H0 M0 A env σ H) (hv : Paired (OpdR K M0 env σ H) os vs) (hn : vs.length = n)
    (hi : IoOps io 0 os is) (hm : os.mapM (rdO env) = some ds) (h : Sat K H0 M0 A W (frR env io is (F ds)) env σ H fun o e1 H1 => ∀ v, OpdR K M0 e1 σ H1 o v → Q v H1) : spF K n io F vs H Q (WE W σ) := by
  have lv : os.length = vs.length := Paired.length hv
  -- no one is handed over
  have none_case : io = none → spF K n io F vs H Q (WE W σ) := fun z => by
    subst z
    refine ⟨hn, MM M0 env σ, ds, E.mok, ⟨by rw [mapM_len hm, lv], fun i d v e1 e2 => ⟨fun _ => ?_, fun z => nomatch z⟩⟩, ?_⟩
    · obtain ⟨o, o1, o2⟩ := mapM_get hm e1
      have r := Paired.get hv o1 e2
      cases o with
      | pl j => exact nomatch hi.1 i j o1
      | val d' => cases o2; exact r
    · cases e : F ds with
      | bad => rw [e] at h; exact h.elim
      | ok d out =>
        rw [e] at h
        intro v H' st _ rv
        have st' : Stp NoA H H' := st.weak fun a ⟨i, z, _⟩ => nomatch z
        exact h H' st'.no Sub.refl (E.keep st') v rv
      | exc C f d out =>
        rw [e] at h
        intro dd v H' st _ hd rv
        have st' : Stp NoA H H' := st.weak fun a ⟨i, z, _⟩ => nomatch z
        exact h dd v H' st'.no Sub.refl (E.keep st') hd rv
  cases hio : io with
  | none => rw [hio] at none_case; exact none_case rfl
  | some m =>
    subst hio
    -- the slot that is handed over
    have slot : ∃ i, is = [i] := by
      cases e : F ds with
      | bad => rw [e] at h; exact h.elim
      | ok d out =>
        rw [e] at h
        match is, h with
        | [i], _ => exact ⟨i, rfl⟩
        | [], h => exact h.elim
        | _ :: _ :: _, h => exact h.elim
      | exc C f d out =>
        rw [e] at h
        match is, h with
        | [i], _ => exact ⟨i, rfl⟩
        | [], h => exact h.elim
        | _ :: _ :: _, h => exact h.elim
    obtain ⟨i, rfl⟩ := slot
    by_cases hml : m < os.length
    · obtain ⟨i', om, ei⟩ := hi.2.1 m (by rw [Nat.zero_add]) hml
      cases ei
      obtain ⟨v, hvm⟩ : ∃ v, vs[m]? = some v := ⟨vs[m]'(by omega), List.getElem?_eq_getElem (by omega)⟩
      obtain ⟨sv, c, hc⟩ := Paired.get hv om hvm
      have hcell : cellAt env i = some c := by unfold cellAt; rw [hc]; rfl
      -- its cell is ours or handed to us
      have key : ∃ (a : Addr) (xs : List V) (es : List D), v = .ref a ∧ MM M0 env σ a ∧ H a = some (.lst xs) ∧ RepL K H (MM M0 env σ) es xs ∧ content c = .lst es ∧
          (∀ (out : List D) (ys : List V) (H' : Hp), Stp (fun x => x = a) H H' → H' a = some (.lst ys) → RepL K H' (MM M0 env σ) out ys → ∃ env', EnvR K H0 M0 A env' σ H' ∧ Sub σ env env' ∧ MM M0 env' σ = MM M0 env σ ∧ WW A env σ a ∧
            (∀ d, frR env (some m) [i] (.ok d out) = .ok (.val d) env') ∧ ∀ C f d, frR env (some m) [i] (.exc C f d out) = .exc C f d env') := by
        cases c with
        | dat d =>
          exfalso
          cases e : F ds with
          | bad => rw [e] at h; exact h.elim
          | ok d' out => rw [e] at h; unfold frR at h; dsimp only at h; rw [hcell] at h; exact h.elim
          | exc C f d' out => rw [e] at h; unfold frR at h; dsimp only at h; rw [hcell] at h; exact h.elim
        | slf C ns es => exact absurd hc (fun q => E.slf i C ns es q)
        | own es =>
          obtain ⟨a, xs, s, q, l, nm, h0⟩ := E.own i es hc
          rw [sv] at s; cases s
          refine ⟨a, xs, es, rfl, .inr ⟨i, es, hc, sv⟩, q, l, rfl, fun out ys H' st h' rr => ?_⟩
          obtain ⟨E', u, eM⟩ := E.setOwn hc sv st h' rr
          refine ⟨_, E', u, eM, .inr ⟨i, es, hc, sv⟩, fun d => ?_, fun C f d => ?_⟩
          · unfold frR; dsimp only; rw [hcell]
          · unfold frR; dsimp only; rw [hcell]
        | io es =>
          obtain ⟨a, xs, s, Aa, q, l⟩ := E.io i es hc
          rw [sv] at s; cases s
          refine ⟨a, xs, es, rfl, .inl (E.aM a Aa), q, l, rfl, fun out ys H' st h' rr => ?_⟩
          obtain ⟨E', u, eM⟩ := E.setIo hc sv st h' rr
          refine ⟨_, E', u, eM, .inl Aa, fun d => ?_, fun C f d => ?_⟩
          · unfold frR; dsimp only; rw [hcell]
          · unfold frR; dsimp only; rw [hcell]
      obtain ⟨a, xs, es, rfl, Ma, ha, l, hcont, go⟩ := key
      refine ⟨hn, MM M0 env σ, ds, E.mok, ⟨by rw [mapM_len hm, lv], fun j d w e1 e2 => ?_⟩, ?_⟩
      · obtain ⟨o, o1, o2⟩ := mapM_get hm e1
        have r := Paired.get hv o1 e2
        refine ⟨fun z => ?_, fun z => ?_⟩
        · cases o with
          | pl k =>
            have := hi.1 j k o1
            rw [Nat.zero_add] at this
            exact absurd this z
          | val d' => cases o2; exact r
        · cases z
          rw [om] at o1; cases o1
          rw [hvm] at e2; cases e2
          have : (cellAt env i).map content = some d := o2
          rw [hcell] at this
          rw [Option.map_some, hcont] at this
          cases this
          exact ⟨a, xs, es, rfl, rfl, Ma, ha, l⟩
      · have ioA : ∀ x, IoA (some m) vs x → x = a := fun x ⟨j, z, q⟩ => by
          cases z; rw [hvm] at q; cases q; rfl
        cases e : F ds with
        | bad => rw [e] at h; exact h.elim
        | ok d out =>
          rw [e] at h
          intro v H' st ot rv
          obtain ⟨a', ys, q1, q2, q3⟩ := ot m rfl
          rw [hvm] at q1; cases q1
          obtain ⟨env', E', u, eM, wa, f1, _⟩ := go out ys H' (st.weak ioA) q2 q3
          rw [f1] at h
          exact h H' (st.weak fun x z => ioA x z ▸ wa) u E' v (by show Rep K H' (MM M0 env' σ) d v; rw [eM]; exact rv)
        | exc C f d out =>
          rw [e] at h
          intro dd v H' st ot hd rv
          obtain ⟨a', ys, q1, q2, q3⟩ := ot m rfl
          rw [hvm] at q1; cases q1
          obtain ⟨env', E', u, eM, wa, _, f2⟩ := go out ys H' (st.weak ioA) q2 q3
          rw [f2] at h
          exact h dd v H' (st.weak fun x z => ioA x z ▸ wa) u E' hd (by rw [eM]; exact rv)
    · exfalso
      obtain ⟨m', a1, a2⟩ := hi.2.2 i (by simp)
      rw [Nat.zero_add] at a1
      cases a1
      exact hml a2
end
end Mp
set_option maxHeartbeats 4000000
namespace Mp
open PySem L2 PyProof.Rows
/-- whether it is known that no repr is under way -/
class GdW where
  gd : Prop
variable [TabsW] [GdW]
/-- room for so many calls, where no repr is under way -/
structure Room (k : Nat) (A : Around) : Prop where
  r : L2.Room k A
  g : GdW.gd → A.guards = some []
theorem Room.mono {j k : Nat} {A : Around} (h : Room k A) (l : j ≤ k) : Room j A := ⟨h.r.mono l, h.g⟩
theorem Room.make {k : Nat} {A : Around} (h : Room (k + 1) A) (C : Addr) (us : List Value) (kw : List (Str × Value)) : Room k (A.under (.builtin "type.__call__" ⟨.ref C :: us, kw⟩)) := by
  refine ⟨h.r.make C us kw, fun z => ?_⟩
  have e : Code.guards (.builtin "type.__call__" ⟨.ref C :: us, kw⟩) = [] := rfl
  show pushGuards (Code.guards (.builtin "type.__call__" ⟨.ref C :: us, kw⟩)) A.guards = some []
  rw [e, h.g z]
  rfl
/-- what a def is worth where no repr is under way -/
structure FnOk (P : Program) (w : World) (K : PySem.W.Frag) (mg : Str → Option Value) (base : Heap) (CX : CXT) (k : Nat) (f : Addr) (fd : FuncData) (ps : List Str) (sp : Sp) : Prop where
  len : ∀ vs H Q E, sp vs H Q E → vs.length = ps.length
  go : ∀ (A : Around) (out : List PySem.Env) (s : Shared) (H : Hp) (args : Args) (us : List Value) (vs : List V) (Q : VK) (E : XK), Room k A → Env0 P w K mg base A out s H → BindsTo s fd args (ps.zip us) → Vals vs us → sp vs H Q E → codeAny (model P w) A (.call (.ref f) args) (CR CX out P w H s Q E) s
/-- THE RULE for a def by its text -/
theorem fn_text {CX : CXT} {P : Program} {w : World} {K : PySem.W.Frag} {mg : Str → Option Value} {base : Heap} {k : Nat} {f : Addr} {nm qn : Str} {par : Arguments} {bd : List Stmt} {sc : Scope} {dV kV doc pm cdv ct oc : Value} {an od : Option Addr} {osl : Array (Option Value)} {N ps : List Str} {sp : Sp}
    (lk : K.lookup f = some ⟨oc, od, .func (PySem.W.fnOf nm qn par bd sc dV kV doc pm an cdv ct), osl⟩) (hcd : PySem.W.codeIn K cdv qn = true) (S : FnScope N ps sc) (len : ∀ vs H Q E, sp vs H Q E → vs.length = ps.length)
    (bod : ∀ (A : Around) (out : List PySem.Env) (s : Shared) (H : Hp) (vs : List V) (Q : VK) (E : XK), Room k (A.deeper (envOfC qn sc s.heap.objs.size f cdv)) → sp vs H Q E → ∃ t, PSs (cxOf CX P w K mg base N qn sc f cdv A out s H E) bd t ∧ t { nx := fun _ H' => Q .non H', rt := Q } (L2.start N vs) H) :
    FnOk P w K mg base CX (k + 1) f (PySem.W.fnOf nm qn par bd sc dV kV doc pm an cdv ct) ps sp :=
  ⟨len, fun A out s H args us vs Q E hr e0 hb r h => LamX.run_ofS lk hcd S hr.r e0 hb r (len _ _ _ _ h) fun hr' => bod A out s H vs Q E ⟨hr', hr.g⟩ h⟩
theorem fun_okX {P : Program} {w : World} {K : PySem.W.Frag} {mg : Str → Option Value} {base : Heap} {x qn : Str} {st : Stmt} {f : Addr} {fd : FuncData} {N ps : List Str} {k : Nat} {sp : Sp} (F : Fun K x qn st f fd) (S : FnScope N ps (defScope st)) (len : ∀ vs H Q E, sp vs H Q E → vs.length = ps.length)
    (bod : ∀ (cdv : Value) (A : Around) (out : List PySem.Env) (s : Shared) (H : Hp) (vs : List V) (Q : VK) (E : XK), Room k (A.deeper (envOfC qn (defScope st) s.heap.objs.size f cdv)) → sp vs H Q E →
      ∃ t, PSs (cxOf (L2.CX P w) P w K mg base N qn (defScope st) f cdv A out s H E) (defBody st) t ∧ t { nx := fun _ H' => Q .non H', rt := Q } (L2.start N vs) H) : FnOk P w K mg base (L2.CX P w) (k + 1) f fd ps sp := by
  obtain ⟨oc, od, kV, doc, pm, an, cdv, ct, osl, rfl, lk, hcd⟩ := F.ex
  exact fn_text lk hcd S len fun A out s H vs Q E hr h => bod cdv A out s H vs Q E hr h
theorem fund_ok {CX : CXT} {P : Program} {w : World} {K : PySem.W.Frag} {mg : Str → Option Value} {base : Heap} {x qn : Str} {par : Arguments} {bd : List Stmt} {sc : Scope} {dvs : List V} {kws : List (Str × V)} {f : Addr} {fd : FuncData} {N ps : List Str} {k : Nat} {sp : Sp} (F : FunD K x qn par bd sc dvs kws f fd) (S : FnScope N ps sc) (len : ∀ vs H Q E, sp vs H Q E → vs.length = ps.length)
    (bod : ∀ (cdv : Value) (A : Around) (out : List PySem.Env) (s : Shared) (H : Hp) (vs : List V) (Q : VK) (E : XK), Room k (A.deeper (envOfC qn sc s.heap.objs.size f cdv)) → sp vs H Q E →
      ∃ t, PSs (cxOf CX P w K mg base N qn sc f cdv A out s H E) bd t ∧ t { nx := fun _ H' => Q .non H', rt := Q } (L2.start N vs) H) : FnOk P w K mg base CX (k + 1) f fd ps sp := by
  obtain ⟨oc, od, dV, kV, doc, pm, an, cdv, ct, osl, rfl, lk, hcd, _, _⟩ := F.ex
  exact fn_text lk hcd S len fun A out s H vs Q E hr h => bod cdv A out s H vs Q E hr h
section
variable {X : Cx} {CX : CXT} {k : Nat} {f : Addr} {fd : FuncData} {ps : List Str} {sp : Sp} {ds : List Value} {dvs : List V} {E : L2.St → XK}
theorem run_fnSD {pins : List (Addr × Obj)} {τ : L2.St} {H : Hp} {s : Shared} {Q : VK} {us : List Value} {vs : List V} (F : FnOk X.prog X.w X.K X.mg X.base CX k f fd ps sp) (room : Room k X.A) (bi : Binds X.K fd ps ds) (dv : Vals dvs ds) (pa : PassesAt CX X τ (E τ))
    (I : Inv X pins τ H s) (r : Vals vs us) (want : sp (vs ++ dvs) H Q (E τ)) : wpAny (model X.prog X.w) X.A (call (.ref f) us) (EP X pins τ Q) X.xe s := by
  have rr : Vals (vs ++ dvs) (us ++ ds) := r.append dv
  have many : (us ++ ds).length = ps.length := rr.length.symm.trans (F.len _ _ _ _ want)
  refine wpAny_call (codeAny_mono (F.go _ X.stack _ _ ⟨us, []⟩ _ _ _ (E τ) room I.env0 (bi _ us I.kIn many) rr want) fun res s' got => ?_)
  match res, got with
  | .error e, got => exact pa pins _ _ e s' I got
  | .ok (.ret u), got => exact I.after got
  | .ok .next, got => exact got.elim
  | .ok .brk, got => exact got.elim
  | .ok .cont, got => exact got.elim
theorem pe_callSD {x : Str} {e : Expr} {es : List Expr} {t : TA} {p pos : Pos} (F : FnOk X.prog X.w X.K X.mg X.base CX k f fd ps sp) (room : Room k X.A) (hg : Gl X x) (hm : X.mg x = some (.ref f)) (hk : PySem.W.keepIn X.K (.ref f) = true) (bi : Binds X.K fd ps ds) (dv : Vals dvs ds) (pa : ∀ τ, PassesAt CX X τ (E τ))
    (ha : PA X (e :: es) t) (dbg : (x == ("__debug__" : Str)) = false) (h1 : starEach (e :: es) X.env = (false, eval e X.env) :: starEach es X.env) (h2 : (backTo pos (starEach es X.env)).any (·.1) = false) : PE X (.Call (.Name x p) (e :: es) [] pos) (tCallSD sp dvs E t) := by
  refine ⟨fun pins s τ H Q I h => wpAny_Call_Name_kw (ld_glob I hg hm ?_ dbg)⟩
  exact PySem.W.callWith_K (h₀ := X.base) I.ok.mod.kin hk (thn (ha.run pos pins s τ H _ I h) fun us s1 ⟨vs, H1, I1, r, q⟩ => ⟨I1.kIn, run_fnSD F room bi dv (pa τ) I1 r q⟩) h1 h2
end
/-- a def that may be called by a name: n arguments written, more by defaults -/
structure FnF (P : Program) (w : World) (K : PySem.W.Frag) (mg : Str → Option Value) (base : Heap) (k : Nat) (x : Str) (f : Fn) : Prop where
  dbg : (x == ("__debug__" : Str)) = false
  ex : ∃ (a : Addr) (fd : FuncData) (ps : List Str) (sp : Sp) (ds : List Value) (dvs : List V), mg x = some (.ref a) ∧ PySem.W.keepIn K (.ref a) = true ∧ FnOk P w K mg base (L2.CX P w) k a fd ps sp ∧ Binds K fd ps ds ∧ Vals dvs ds ∧
    ∀ vs H Q E, spF K f.n f.io f.sem vs H Q E → sp (vs ++ dvs) H Q E
def spMk (K : PySem.W.Frag) (C : Str) (n : Nat) (ns : List Str) (F : List D → FR) : Sp := fun vs H Q E => ∃ (M : AS) (ds : List D) (a dx : Addr) (rest : List V), MOk M H ∧ vs = .ref a :: rest ∧ rest.length = n ∧ H a = some (.ins (clsAt K C) dx []) ∧ ¬ M a ∧ RepL K H (fun b => M b ∨ b = a) ds rest ∧
  (match F ds with
   | .ok _ out => ∀ (xs : List V) H', Stp (fun x => x = a) H H' → H' a = some (.ins (clsAt K C) dx (ns.zip xs)) → ns.length = xs.length → RepL K H' M out xs → Q .non H'
   | .exc C' f d _ => ∀ dd v H', Stp (fun x => x = a) H H' → H' dd = some (.xd [(f, v)]) → Rep K H' M d v → E (.ref (clsAt K C')) (some dd) H'
   | .bad => False)
structure MkF (P : Program) (w : World) (K : PySem.W.Frag) (mg : Str → Option Value) (base : Heap) (k : Nat) (x : Str) (m : Mkr) : Prop where
  dbg : (x == ("__debug__" : Str)) = false
  ex : ∃ (a : Addr) (fd : FuncData) (ps : List Str) (sp : Sp) (ds : List Value) (dvs : List V), mg x = some (.ref (clsAt K m.C)) ∧ Mk K (clsAt K m.C) a ∧ FnOk P w K mg base (L2.CX P w) k a fd ps sp ∧ Binds K fd ps ds ∧ Vals dvs ds ∧
    ∀ v vs H Q E, spMk K m.C m.n m.ns m.sem (v :: vs) H Q E → sp (v :: (vs ++ dvs)) H Q E
structure MtF (P : Program) (w : World) (K : PySem.W.Frag) (mg : Str → Option Value) (base : Heap) (k : Nat) (m : Mt) : Prop where
  cl : Cls K (clsAt K m.C)
  ex : ∃ (a : Addr) (fd : FuncData) (ps : List Str) (sp : Sp) (ds : List Value) (dvs : List V), Meth K (clsAt K m.C) m.name a ∧ FnOk P w K mg base (L2.CX P w) k a fd ps sp ∧ Binds K fd ps ds ∧ Vals dvs ds ∧
    ∀ vs H Q E, spF K m.n none m.sem vs H Q E → sp (vs ++ dvs) H Q E
section
variable {X : Cx} {G : Ctx} {W : WX}
theorem call_read {K : PySem.W.Frag} {j : Nat} {f : Fn} {is : List IR} {sp : Sp} {dvs : List V} (hj : G.fns[j]? = some f) (hs : ∀ vs H Q E, spF K f.n f.io f.sem vs H Q E → sp (vs ++ dvs) H Q E) {σ : L2.St} {H : Hp} {Q : VK} (q : tI G W K (.call j is) σ H Q) :
    tCallSD sp dvs (WE W) (tIa G W K f.io 0 is) σ H Q := by
  obtain ⟨H0, M0, A, env, E, q⟩ := q
  rw [ev, hj] at q
  dsimp only at q
  by_cases hl : is.length = f.n
  · rw [if_pos hl] at q
    refine ⟨H0, M0, A, env, E, (Sat.bind q).mono fun p e1 H1 he s1 u1 E1 h1 vs hv => ?_⟩
    refine hs vs H1 Q _ ?_
    obtain ⟨hi, _⟩ := eva_ops G f.io is 0 env p e1 he
    cases e : p.1.mapM (rdO e1) with
    | none => rw [e] at h1; exact h1.elim
    | some ds =>
      rw [e] at h1
      have ln : vs.length = f.n := by
        rw [← Paired.length hv]
        have := eva_len G f.io is 0 env p e1 he
        rw [this]; exact hl
      exact call_end E1 hv ln hi e h1
  · rw [if_neg hl] at q
    exact q.elim
where
  eva_len (G : Ctx) (io : Option Nat) : ∀ (es : List IR) (n : Nat) (env : Env) (p : List Opd × List Nat) (e1 : Env), eva G io n es env = .ok p e1 → p.1.length = es.length
  | [], n, env, p, e1, h => by rw [eva] at h; cases h; rfl
  | e :: es, n, env, p, e1, h => by
    rw [eva] at h
    by_cases hio : io = some n
    · rw [if_pos hio] at h
      cases h1 : ev G e env with
      | bad => rw [h1] at h; cases h
      | exc C f d e2 => rw [h1] at h; cases h
      | ok o e2 =>
        rw [h1] at h
        cases o with
        | val d => cases h
        | pl i =>
          have h : ((eva G io (n + 1) es e2).bind fun p e2 => R.ok (Opd.pl i :: p.1, i :: p.2) e2) = .ok p e1 := h
          cases h2 : eva G io (n + 1) es e2 with
          | bad => rw [h2] at h; cases h
          | exc C f d e3 => rw [h2] at h; cases h
          | ok q e3 =>
            rw [h2] at h
            cases h
            simp [eva_len G io es (n + 1) e2 q _ h2]
    · rw [if_neg hio] at h
      cases h1 : (ev G e env).take with
      | bad => rw [h1] at h; cases h
      | exc C f d e2 => rw [h1] at h; cases h
      | ok d e2 =>
        rw [h1] at h
        have h : ((eva G io (n + 1) es e2).bind fun p e2 => R.ok (Opd.val d :: p.1, p.2) e2) = .ok p e1 := h
        cases h2 : eva G io (n + 1) es e2 with
        | bad => rw [h2] at h; cases h
        | exc C f d e3 => rw [h2] at h; cases h
        | ok q e3 =>
          rw [h2] at h
          cases h
          simp [eva_len G io es (n + 1) e2 q _ h2]
theorem e_call {k j : Nat} {f : Fn} {x : Str} {e : Expr} {es : List Expr} {is : List IR} {p pos : Pos} (F : FnF X.prog X.w X.K X.mg X.base k x f) (hj : G.fns[j]? = some f) (hr : Room k X.A) (tk : Takes X W) (hg : Gl X x) (ha : PA X (e :: es) (tIa G W X.K f.io 0 is)) (h1 : (e :: es).any starB = false) :
    PE X (.Call (.Name x p) (e :: es) [] pos) (tI G W X.K (.call j is)) := by
  rw [List.any_cons, Bool.or_eq_false_iff] at h1
  obtain ⟨a, fd, ps, sp, ds, dvs, hm, hk, ok, hb, hd, hs⟩ := F.ex
  exact PE.by_ (pe_callSD ok hr hg hm hk hb hd (fun σ => passAt tk σ) ha F.dbg (star_cons h1.1) (star_none h1.2)) fun σ H Q q => call_read hj hs q
/-- a class is called; what is raised is wished for at the caller's slots -/
theorem mkS {CX : CXT} {k : Nat} {C f : Addr} {fd : FuncData} {ps : List Str} {sp : Sp} {dvs : List V} {dds : List Value} {T : L2.St → XK} {pins : List (Addr × Obj)} {τ : L2.St} {H : Hp} {s : Shared} {Q : VK} {us : List Value} {vs : List V}
    (M : Mk X.K C f) (F : FnOk X.prog X.w X.K X.mg X.base CX k f fd ps sp) (room : Room (k + 1) X.A) (bi : Binds X.K fd ps dds) (dv : Vals dvs dds) (pa : PassesAt CX X τ (T τ)) (I : Inv X pins τ H s) (r : Vals vs us)
    (h : ∀ o d, H o = none → H d = none → d ≠ o → sp (.ref o :: (vs ++ dvs)) (upd (upd H d (.own o)) o (.ins C d [])) (fun v H2 => v = .non ∧ Q (.ref o) H2) (T τ)) : wpAny (model X.prog X.w) X.A (call (.ref C) us) (EP X pins τ Q) X.xe s := by
  have sz := s.heap.objs.size
  have want := h (s.heap.objs.size + 1) s.heap.objs.size (I.hok.fresh (Nat.le_succ _)) (I.hok.fresh (Nat.le_refl _)) (Nat.ne_of_lt (Nat.lt_succ_self _))
  have J := Inv.made (C := C) I
  have rr : Vals (V.ref (s.heap.objs.size + 1) :: (vs ++ dvs)) (Value.ref (s.heap.objs.size + 1) :: (us ++ dds)) := .cons rfl (r.append dv)
  have many : (Value.ref (s.heap.objs.size + 1) :: us ++ dds).length = ps.length := (rr.length.symm.trans (F.len _ _ _ _ want))
  have bound := bi _ (Value.ref (s.heap.objs.size + 1) :: us) J.kIn many
  refine wpAny_call (make_map (f := f) I.kIn M.makes M.init (beq_iff_eq.mp M.fn) (codeAny_mono (F.go _ X.stack _ _ ⟨Value.ref (s.heap.objs.size + 1) :: us, []⟩ _ _ _ (T τ) (room.make C us []) (J.env0.make C us []) bound rr want) fun res s' got => ?_))
  match res, got with
  | .error e, got => exact pa pins _ _ e s' J got
  | .ok (.ret u), got =>
    obtain ⟨v, H', J', rv, ev, q⟩ := J.after got
    cases ev
    exact ⟨rv, V.ref (s.heap.objs.size + 1), H', J', rfl, q⟩
  | .ok .next, got => exact got.elim
  | .ok .brk, got => exact got.elim
  | .ok .cont, got => exact got.elim
theorem evs_len (G : Ctx) : ∀ (es : List IR) (env : Env) (p : List D) (e1 : Env), evs G es env = .ok p e1 → p.length = es.length
  | [], env, p, e1, h => by rw [evs] at h; cases h; rfl
  | e :: es, env, p, e1, h => by
    rw [evs] at h
    cases h1 : (ev G e env).take with
    | bad => rw [h1] at h; cases h
    | exc C f d e2 => rw [h1] at h; cases h
    | ok d e2 =>
      rw [h1] at h
      have h : ((evs G es e2).bind fun ds e2 => R.ok (d :: ds) e2) = .ok p e1 := h
      cases h2 : evs G es e2 with
      | bad => rw [h2] at h; cases h
      | exc C f d e3 => rw [h2] at h; cases h
      | ok q e3 =>
        rw [h2] at h
        cases h
        simp [evs_len G es e2 q _ h2]
theorem make_read {K : PySem.W.Frag} {j : Nat} {m : Mkr} {is : List IR} (hj : G.mks[j]? = some m) {σ : L2.St} {H : Hp} {Q : VK} (q : tI G W K (.make j is) σ H Q) :
    tIs G W K is σ H fun vs H1 => ∀ o d, H1 o = none → H1 d = none → d ≠ o → spMk K m.C m.n m.ns m.sem (.ref o :: vs) (upd (upd H1 d (.own o)) o (.ins (clsAt K m.C) d [])) (fun v H2 => v = .non ∧ Q (.ref o) H2) (WE W σ) := by
  obtain ⟨H0, M0, A, env, E, q⟩ := q
  rw [ev, hj] at q
  dsimp only at q
  by_cases hl : is.length = m.n
  · rw [if_pos hl] at q
    refine ⟨H0, M0, A, env, E, (Sat.bind q).mono fun ds e1 H1 he s1 u1 E1 h1 vs hv o d ho hd hne => ?_⟩
    have t1 : Stp NoA H1 (upd (upd H1 d (.own o)) o (.ins (clsAt K m.C) d [])) := (Stp.new hd).trans (Stp.new (by rw [upd_ne (Ne.symm hne)]; exact ho))
    have lv : vs.length = m.n := by rw [← hv.length, evs_len G is env ds e1 he]; exact hl
    refine ⟨MM M0 e1 σ, ds, o, d, vs, ⟨fun b hb => t1.mo b (E1.mok.al b hb), fun P q h => t1.tb P q h (E1.tb P q h)⟩, rfl, lv, upd_same, (E1.fresh ho).1, RepL.stp t1.no (fun _ z => z) ds vs (RepL.grow (fun b z => z.elim .inl fun q => .inr (by rw [q]; exact nn_of ho)) ds vs hv), ?_⟩
    · have back : ∀ {H' : Hp}, Stp (fun x => x = o) (upd (upd H1 d (.own o)) o (.ins (clsAt K m.C) d [])) H' → Stp NoA H1 H' := fun {H'} s => ⟨fun b u e _ t => s.st b u (t1.st b u e id t) (fun z => by rw [z, ho] at e; cases e) t, fun b h => s.mo b (t1.mo b h), fun P q m h => s.tb P q m (t1.tb P q m h)⟩
      cases e : m.sem ds with
      | bad => rw [e] at h1; exact h1.elim
      | ok r out =>
        rw [e] at h1
        intro xs H' st h' hlen rr
        refine ⟨rfl, h1 H' (back st).no Sub.refl (E1.keep (back st)) _ ?_⟩
        show Rep K H' (MM M0 e1 σ) (.obj m.C m.ns out) (.ref o)
        unfold Rep
        exact ⟨o, d, xs, rfl, (E1.fresh ho).1, h', hlen, rr⟩
      | exc C f r out =>
        rw [e] at h1
        intro dd v H' st h' rr
        exact h1 dd v H' (back st).no Sub.refl (E1.keep (back st)) h' rr
  · rw [if_neg hl] at q
    exact q.elim
theorem e_make {k j : Nat} {m : Mkr} {x : Str} {e : Expr} {es : List Expr} {is : List IR} {p pos : Pos} (F : MkF X.prog X.w X.K X.mg X.base k x m) (hj : G.mks[j]? = some m) (hr : Room (k + 1) X.A) (tk : Takes X W) (hg : Gl X x) (ha : PA X (e :: es) (tIs G W X.K is)) (h1 : (e :: es).any starB = false) :
    PE X (.Call (.Name x p) (e :: es) [] pos) (tI G W X.K (.make j is)) := by
  rw [List.any_cons, Bool.or_eq_false_iff] at h1
  obtain ⟨a, fd, ps, sp, ds, dvs, hm, hk, ok, hb, hd, hs⟩ := F.ex
  refine ⟨fun pins s σ H Q I h => ?_⟩
  refine wpAny_Call_Name_kw (ld_glob I hg hm ?_ F.dbg)
  refine PySem.W.callWith_K (h₀ := X.base) I.ok.mod.kin hk.kp (thn (ha.run pos pins s σ H _ I (make_read hj h)) fun us s1 ⟨vs, H1, I1, r, q⟩ => ⟨I1.kIn, ?_⟩) (star_cons h1.1) (star_none h1.2)
  exact mkS (T := WE W) hk ok hr hb hd (passAt tk σ) I1 r fun o d ho hd' hne => hs _ _ _ _ _ (q o d ho hd' hne)
theorem e_make0 {k j : Nat} {m : Mkr} {x : Str} {p pos : Pos} (F : MkF X.prog X.w X.K X.mg X.base k x m) (hj : G.mks[j]? = some m) (hr : Room (k + 1) X.A) (tk : Takes X W) (hg : Gl X x) : PE X (.Call (.Name x p) [] [] pos) (tI G W X.K (.make j [])) := by
  obtain ⟨a, fd, ps, sp, ds, dvs, hm, hk, ok, hb, hd, hs⟩ := F.ex
  refine ⟨fun pins s σ H Q I h => ?_⟩
  have q := make_read hj h
  obtain ⟨H0, M0, A, env, E, q⟩ := q
  rw [evs] at q
  have q2 := q H Stp.refl Sub.refl E [] RepL.nil
  refine wpAny_Call_Name_kw (ld_glob I hg hm ?_ F.dbg)
  exact PySem.W.callWith_K0 I.kIn hk.kp (mkS (us := []) (vs := []) (T := WE W) hk ok hr hb hd (passAt tk σ) I .nil fun o d ho hd' hne => hs _ _ _ _ _ (q2 o d ho hd' hne))
end
end Mp
set_option maxHeartbeats 4000000
namespace Mp
open PySem L2
variable [TabsW] [GdW]
section
variable {X : Cx} {G : Ctx} {W : WX}
theorem lookup_zip_none {f : Str} : ∀ {ns : List Str} {xs : List V}, ns.contains f = false → (ns.zip xs).lookup f = none
  | [], xs, _ => by simp
  | n :: ns, [], _ => by simp
  | n :: ns, x :: xs, h => by
    rw [List.contains_cons, Bool.or_eq_false_iff] at h
    rw [List.zip_cons_cons, List.lookup_cons, h.1]
    exact lookup_zip_none h.2
theorem meth_read {K : PySem.W.Frag} {j : Nat} {m : Mt} {o' : IR} {is : List IR} (hj : G.mts[j]? = some m) {σ : L2.St} {H : Hp} {Q : VK} (q : tI G W K (.meth j o' is) σ H Q) :
    tI G W K o' σ H fun x H1 => ∃ a dx fs, x = .ref a ∧ H1 a = some (.ins (clsAt K m.C) dx fs) ∧ fs.lookup m.name = none ∧ tIs G W K is σ H1 fun vs H2 => spF K m.n none m.sem (x :: vs) H2 Q (WE W σ) := by
  obtain ⟨H0, M0, A, env, E, q⟩ := q
  rw [ev, hj] at q
  dsimp only at q
  refine ⟨H0, M0, A, env, E, (Sat.bind q).mono fun o e1 H1 he s1 u1 E1 h1 x hx => ?_⟩
  cases o with
  | pl i => exact h1.elim
  | val d =>
    cases d with
    | obj C ns ds =>
      have h1 : Sat K H0 M0 A W (if C = m.C ∧ is.length + 1 = m.n ∧ ns.contains m.name = false then (evs G is e1).bind fun vs e2 => frR e2 none [] (m.sem (.obj C ns ds :: vs)) else .bad) e1 σ H1 (fun o e1 H1 => ∀ v, OpdR K M0 e1 σ H1 o v → Q v H1) := h1
      by_cases hc : C = m.C ∧ is.length + 1 = m.n ∧ ns.contains m.name = false
      · rw [if_pos hc] at h1
        obtain ⟨hC, hn, hno⟩ := hc
        have hx0 : Rep K H1 (MM M0 e1 σ) (.obj C ns ds) x := hx
        have hx1 := hx0
        unfold Rep at hx1
        obtain ⟨a, dx, xs, rfl, nm, ha, hl, rr⟩ := hx1
        refine ⟨a, dx, _, rfl, by rw [← hC]; exact ha, lookup_zip_none hno, ?_⟩
        refine ⟨H0, M0, A, e1, E1, (Sat.bind h1).mono fun vs e2 H2 he2 s2 u2 E2 h2 ws hw => ?_⟩
        have hx2 := hold hx0 E1.aM s2 u2
        refine ⟨by rw [List.length_cons, ← hw.length, evs_len G is e1 vs e2 he2]; exact hn, MM M0 e2 σ, .obj C ns ds :: vs, E2.mok, ?_, ?_⟩
        · refine ⟨by simp [hw.length], fun i d v g1 g2 => ⟨fun _ => ?_, fun z => nomatch z⟩⟩
          obtain ⟨y, y1, y2⟩ := (RepL.cons hx2 hw).get g1
          rw [g2] at y1; cases y1
          exact y2
        · cases e : m.sem (.obj C ns ds :: vs) with
          | bad => rw [e] at h2; exact h2.elim
          | ok d out =>
            rw [e] at h2
            intro v H' st _ rv
            have st' : Stp NoA H2 H' := st.weak fun a ⟨i, z, _⟩ => nomatch z
            exact h2 H' st'.no Sub.refl (E2.keep st') v rv
          | exc C f d out =>
            rw [e] at h2
            intro dd v H' st _ hd rv
            have st' : Stp NoA H2 H' := st.weak fun a ⟨i, z, _⟩ => nomatch z
            exact h2 dd v H' st'.no Sub.refl (E2.keep st') hd rv
      · rw [if_neg hc] at h1; exact h1.elim
    | _ => exact h1.elim
/-- no call of super() -/
def baseB : Expr → Bool
  | .Call _ [] [] _ => true
  | _ => false
theorem base_of {o : Expr} {f : Str} {env : PySem.Env} {whole : Sem Value} (h : baseB o = false) : attributeBase o f env whole = whole := by
  unfold attributeBase
  split
  · cases h
  · rfl
theorem e_meth {k j : Nat} {m : Mt} {o e : Expr} {es : List Expr} {o' : IR} {is : List IR} {apos pos : Pos} {pl : Sem Bool} (F : MtF X.prog X.w X.K X.mg X.base k m) (hj : G.mts[j]? = some m) (hr : Room k X.A) (tk : Takes X W) (ho : PE X o (tI G W X.K o')) (ha : PA X (e :: es) (tIs G W X.K is)) (h1 : (e :: es).any starB = false)
    (ht : eval (.Call (.Attribute o m.name apos) (e :: es) [] pos) X.env = (do
      let ov ← eval o X.env
      standAt apos.atName
      let (f, first) ← holding [ov] (getMethod ov m.name pl)
      callWith pos f first (backTo pos (starEach (e :: es) X.env)) (backToKw pos (keywordEach [] X.env)))) : PE X (.Call (.Attribute o m.name apos) (e :: es) [] pos) (tI G W X.K (.meth j o' is)) := by
  rw [List.any_cons, Bool.or_eq_false_iff] at h1
  obtain ⟨a, fd, ps, sp, ds, dvs, hm, ok, hb, hd, hs⟩ := F.ex
  refine ⟨fun pins s σ H Q I h => ?_⟩
  refine PySem.W.methodCall_KW (pl := pl) (thn (ho.run pins s σ H _ I (meth_read hj h)) fun u s1 ⟨x, H1, I1, rx, got⟩ => ?_) ht
  obtain ⟨b, dx, fs, rfl, hb1, hl1, q⟩ := got
  have eu : u = Value.ref b := rx
  rw [eu]
  refine getmeth_ok I1 hb1 F.cl hm hl1 ?_
  refine PySem.W.callWith_K (first := [.ref b]) (h₀ := X.base) I.ok.mod.kin hm.kp (thn (ha.run pos pins s1 σ H1 _ I1 q) fun us s2 ⟨vs, H2, I2, r, q2⟩ => ⟨I2.kIn, ?_⟩) (star_cons h1.1) (star_none h1.2)
  exact run_fnSD (E := WE W) (us := .ref b :: us) (vs := .ref b :: vs) ok hr hb hd (passAt tk σ) I2 (.cons rfl r) (hs _ _ _ _ q2)
theorem lookup_zip {K : PySem.W.Frag} {H : Hp} {M : AS} {f : Str} {d : D} : ∀ {ns : List Str} {ds : List D} {xs : List V}, RepL K H M ds xs → ns.length = xs.length → (ns.zip ds).lookup f = some d → ∃ x, (ns.zip xs).lookup f = some x ∧ Rep K H M d x
  | [], ds, xs, r, hl, e => by simp at e
  | n :: ns, [], xs, r, hl, e => by simp at e
  | n :: ns, d' :: ds, xs, r, hl, e => by
    unfold RepL at r
    obtain ⟨x, ys, rfl, r1, r2⟩ := r
    rw [List.zip_cons_cons, List.lookup_cons] at e ⊢
    cases h : f == n with
    | true => rw [h] at e; cases e; exact ⟨x, rfl, r1⟩
    | false => rw [h] at e; exact lookup_zip r2 (by simpa using hl) e
/-- what is known of the classes whose fields are read -/
structure ClsF (K : PySem.W.Frag) (cs : List Str) (fs : List Str) : Prop where
  cl : ∀ C ∈ cs, Cls K (clsAt K C)
  no : ∀ C ∈ cs, ∀ f ∈ fs, NoAttr K (clsAt K C) f
theorem e_fld {o : Expr} {f : Str} {o' : IR} {pos : Pos} {fs : List Str} (F : ClsF X.K G.cls fs) (hf : f ∈ fs) (ho : PE X o (tI G W X.K o')) (hb : baseB o = false) : PE X (.Attribute o f pos) (tI G W X.K (.fld o' f)) := PE.by_ (pe_fld ho (base_of hb)) fun σ H Q q => by
  obtain ⟨H0, M0, A, env, E, q⟩ := q
  rw [ev] at q
  refine ⟨H0, M0, A, env, E, (Sat.bind q).mono fun o2 e1 H1 he s1 u1 E1 h1 x hx => ?_⟩
  cases e : rdO e1 o2 with
  | none => rw [e] at h1; exact h1.elim
  | some d =>
    rw [e] at h1
    have r := hx.rdT E1 e
    cases d with
    | obj C ns ds =>
      have h1 : Sat X.K H0 M0 A W (if G.cls.contains C then lift e1 ((ns.zip ds).lookup f) else .bad) e1 σ H1 (fun o e1 H1 => ∀ v, OpdR X.K M0 e1 σ H1 o v → Q v H1) := h1
      by_cases hc : G.cls.contains C = true
      · rw [if_pos hc] at h1
        have hC : C ∈ G.cls := by simpa using hc
        have r' : Rep X.K H1 (MM M0 e1 σ) (.obj C ns ds) x := r
        unfold Rep at r'
        obtain ⟨a, dx, xs, rfl, nm, ha, hl, rr⟩ := r'
        cases e2 : (ns.zip ds).lookup f with
        | none => rw [e2] at h1; exact h1.elim
        | some z =>
          rw [e2] at h1
          obtain ⟨y, y1, y2⟩ := lookup_zip rr hl e2
          exact ⟨a, clsAt X.K C, dx, _, y, rfl, ha, F.cl C hC, F.no C hC f hf, y1, h1 H1 Stp.refl Sub.refl E1 y y2⟩
      · rw [if_neg hc] at h1; exact h1.elim
    | _ => exact h1.elim
theorem e_chn {a b c : Expr} {op op' : CmpOp} {o1 o2 : COp} {a' b' c' : IR} {r r' : R2} {pos : Pos} (ho : OpR X (compareOp op) r) (ho' : OpR X (compareOp op') r') (hs : CmS X.K r o1) (hs' : CmS X.K r' o2) (ha : PE X a (tI G W X.K a')) (hb : PE X b (tI G W X.K b')) (hc : PE X c (tI G W X.K c'))
    (hm : lastMarks [op, op'] [b, c] = false) : PE X (.Compare a [op, op'] [b, c] pos) (tI G W X.K (.chn o1 o2 a' b' c')) := PE.by_ (pe_chain ho ho' ha hb hc hm) fun σ H Q q => by
  obtain ⟨H0, M0, A, env, E, q⟩ := q
  rw [ev] at q
  refine ⟨H0, M0, A, env, E, (Sat.bind q).mono fun o e1 H1 _ s1 u1 E1 h1 x hx => ?_⟩
  refine ⟨H0, M0, A, e1, E1, (Sat.bind h1).mono fun ob e2 H2 _ s2 u2 E2 h2 y hy => ?_⟩
  have hx2 := hx.hold E1.aM s2 u2
  cases e3 : rdO e2 o with
  | none => rw [e3] at h2; exact h2.elim
  | some p =>
    cases e : rdO e2 ob with
    | none => rw [e3, e] at h2; exact h2.elim
    | some q' =>
      rw [e3, e] at h2
      dsimp only at h2
      cases e4 : cmpD o1 p q' with
      | none => rw [e4] at h2; exact h2.elim
      | some k =>
        rw [e4] at h2
        refine hs (MM M0 e2 σ) x y H2 p q' (.bl k) _ (hx2.rdT E2 e3) (hy.rdT E2 e) (fun a ha => (E2.fresh ha).1) (by show Option.map D.bl (cmpD o1 p q') = some (D.bl k); rw [e4] <;> rfl) fun v H' st rv => ?_
        have E2' := E2.keep st
        unfold Rep at rv
        refine ⟨k, rv, ?_⟩
        cases k with
        | false =>
          show Q (.bl false) H'
          exact h2 H' st.no Sub.refl E2' _ (rep_bl (K := X.K) (H := H') (M := MM M0 e2 σ) false)
        | true =>
          show tI G W X.K c' σ H' fun w' H4 => r' y w' H4 Q
          dsimp only at h2
          refine ⟨H0, M0, A, e2, E2', (Sat.bind (h2.step st.no)).mono fun oc e3 H3 _ s3 u3 E3 h3 z hz => ?_⟩
          have hy2 : OpdR X.K M0 e2 σ H' ob y := hy.hold E2.aM (st.no) Sub.refl
          exact op_end hs' E3 (hy2.hold E2'.aM s3 u3) hz h3
end
end Mp
set_option maxHeartbeats 4000000
namespace Mp
open PySem PyProof.Rows
open PySem.Sem (wp)
theorem ne2 {c i l z : Addr} (h : c = i ∨ c = l) (a : i ≠ z) (b : l ≠ z) : c ≠ z := by rcases h with rfl | rfl <;> assumption
/-- an inner iterator: where it stands, what its next item is, and that it ends -/
structure Inner (prog : Program) (w : World) (it src : Addr) (items : Array Value) (St : Heap → Nat → Prop) : Prop where
  stay : ∀ {h h' : Heap} {k : Nat}, St h k → (∀ c o, c = it ∨ c = src → h.get? c = some o → h'.get? c = some o) → St h' k
  here : ∀ {h : Heap} {k : Nat}, St h k → it < h.objs.size
  item : ∀ {A : Around} {E : Value → Shared → Prop} {s : Shared} {k : Nat} {x : Value} {Q : Value → Shared → Prop}, St s.heap k → items[k]? = some x →
    (∀ h', St h' (k + 1) → Heap.SameBut it s.heap h' → Q x { s with heap := h' }) → wpAny (model prog w) A (Builtin.SmallTypes.nextOf (.ref it)) Q E s
  stop : ∀ {A : Around} {E : Value → Shared → Prop} {s : Shared} {k : Nat} {Q : Value → Shared → Prop}, A.handled = none → St s.heap k → items[k]? = none →
    (∀ h' e, Heap.ExtBut it s.heap h' → (∃ o, h'.get? e = some o ∧ o.cls = .type "StopIteration") → E (.ref e) { s with heap := h' }) → wpAny (model prog w) A (Builtin.SmallTypes.nextOf (.ref it)) Q E s
section
variable {prog : Program} {w : World}
theorem inner_list {i l : Addr} {xs : Array Value} (ne : l ≠ i) : Inner prog w i l xs (fun h k => h.IsListIter i l k ∧ h.IsList l xs) where
  stay := fun ⟨a, b⟩ k => ⟨a.at fun o q => k _ o (.inl rfl) q, let ⟨o, q, r⟩ := b; ⟨o, k _ o (.inr rfl) q, r⟩⟩
  here := fun ⟨⟨_, q, _⟩, _⟩ => Heap.lt_size q
  item := fun ⟨a, b⟩ hx q => wpAny_nextOf_list_item a b hx fun h' u v => q h' ⟨u, b.extBut v.extBut ne⟩ v
  stop := fun hh ⟨a, b⟩ hx q => wpAny_nextOf_list_end hh a b hx q
theorem inner_tuple {i l : Addr} {xs : Array Value} (ne : l ≠ i) : Inner prog w i l xs (fun h k => h.IsTupleIter i l k ∧ h.IsTuple l xs) where
  stay := fun ⟨a, b⟩ k => ⟨a.at fun o q => k _ o (.inl rfl) q, let ⟨o, q, r⟩ := b; ⟨o, k _ o (.inr rfl) q, r⟩⟩
  here := fun ⟨⟨_, q, _⟩, _⟩ => Heap.lt_size q
  item := fun ⟨a, b⟩ hx q => RZ.nextOf_tuple_item a b hx fun h' u v => q h' ⟨u, b.extBut v.extBut ne⟩ v
  stop := fun hh ⟨a, b⟩ hx q => RZ.nextOf_tuple_end hh a b hx q
section
variable {A : Around} {E : Value → Shared → Prop} {s : Shared} {z T O i j l m : Addr} {k1 k2 : Nat} {xs ys : Array Value} {a b : Value} {S1 S2 : Heap → Nat → Prop}
theorem both_item {x y : Value} {Q : Option Value → Shared → Prop} (J1 : Inner prog w i l xs S1) (J2 : Inner prog w j m ys S2) (D : ZipApart z T O i j l m) (gz : IsZip s.heap z T O .none) (gT : IsPair s.heap T (.ref i) (.ref j)) (gO : IsPair s.heap O a b)
    (p1 : S1 s.heap k1) (p2 : S2 s.heap k2) (hx : xs[k1]? = some x) (hy : ys[k2]? = some y)
    (q : ∀ h', IsZip h' z T O (rawInt s.heap.objs.size) → IsPair h' O x y → S1 h' (k1 + 1) → S2 h' (k2 + 1) → IsPair h' s.heap.objs.size x y → h'.objs.size = s.heap.objs.size + 1 → (∀ c o, c ≠ z → c ≠ O → c ≠ i → c ≠ j → s.heap.get? c = some o → h'.get? c = some o) → Q (some (.ref s.heap.objs.size)) { s with heap := h' }) :
    wpAny (model prog w) A (pyNext (.ref z)) Q E s := by
  have tz : s.TypeIs (.ref z) "zip" := ⟨_, gz, rfl⟩
  unfold pyNext; refine wpAny_bind (wpAny_attempt (wpAny_callSpecial?_slot (name := Str.ofString "__next__") tz F.slot_zip_next (wpAny_call_entry F.slot_zip_next tz F.entry_zip_next ?_ (F.args_zip_next_1 _))))
  show wpAny _ _ (field (.ref z) 2 >>= _) _ _ s; refine wpAny_bind (wpAny_field gz rfl (x := .bool false) rfl ?_)
  show wpAny _ _ (field (.ref z) 3 >>= _) _ _ s; refine wpAny_bind (wpAny_field gz rfl (x := .ref T) rfl (wpAny_bind (wpAny_seqItems gT rfl ?_)))
  show wpAny _ _ (Builtin.SmallTypes.ownedTupleIsFree (.ref z) >>= _) _ _ s; refine wpAny_bind ?_
  unfold Builtin.SmallTypes.ownedTupleIsFree; refine wpAny_bind (wpAny_field gz rfl (x := .none) rfl (wpAny_pure ?_))
  simp only [if_true]; refine wpAny_bind (wpAny_rule (wpAny_bind (wpAny_field gz rfl (x := .ref O) rfl ?_)))
  refine wpAny_bind (wpAny_setField_rec gz (by simp) fun ha za sa => ?_)
  have za : IsZip ha z T O .ellipsis := za
  refine wpAny_bind ?_; simp only [List.zipIdx_cons, List.zipIdx_nil, List.forIn_cons, List.forIn_nil]
  refine wpAny_bind (wpAny_bind (wpAny_onRaise ?_)); show wpAny _ _ (Builtin.SmallTypes.nextOf (.ref i) >>= _) _ _ _
  have pa1 : S1 ha k1 := J1.stay p1 fun c o hc e => sa.extBut _ _ (ne2 hc D.i1z D.l1z) e
  refine wpAny_bind (J1.item pa1 hx fun hb pb1 sb => wpAny_pure ?_)
  have Ob : IsPair hb O a b := sb.extBut _ _ D.TOi1 (sa.extBut _ _ D.TOz gO)
  refine wpAny_bind (wpAny_seqItems Ob rfl (wpAny_bind (wpAny_updateSeq_pair Ob fun hc Oc sc => ?_)))
  have Oc : IsPair hc O x b := Oc
  refine wpAny_bind (wpAny_letGo (wpAny_pure ?_)); refine wpAny_bind (wpAny_bind (wpAny_onRaise ?_)); show wpAny _ _ (Builtin.SmallTypes.nextOf (.ref j) >>= _) _ _ _
  have pc2 : S2 hc k2 := J2.stay p2 fun c o h e => sc.extBut _ _ (ne2 h D.TOi2.symm D.l2TO) (sb.extBut _ _ (ne2 h D.i12.symm D.l2i1) (sa.extBut _ _ (ne2 h D.i2z D.l2z) e))
  refine wpAny_bind (J2.item pc2 hy fun hd pd2 sd => wpAny_pure ?_)
  have Od : IsPair hd O x b := sd.extBut _ _ D.TOi2 Oc
  refine wpAny_bind (wpAny_seqItems Od rfl (wpAny_bind (wpAny_updateSeq_pair Od fun he Oe se => ?_)))
  have Oe : IsPair he O x y := Oe
  refine wpAny_bind (wpAny_letGo (wpAny_pure (wpAny_pure (wpAny_bind (wpAny_seqItems Oe rfl (wpAny_bind (wpAny_newTuple ?_)))))))
  have size : he.objs.size = s.heap.objs.size := by rw [se.1, sd.1, sc.1, sb.1, sa.1]
  have ze : IsZip he z T O .ellipsis := se.extBut _ _ D.TOz.symm (sd.extBut _ _ D.i2z.symm (sc.extBut _ _ D.TOz.symm (sb.extBut _ _ D.i1z.symm za)))
  have kept : ∀ c o, c ≠ z → c ≠ O → c ≠ i → c ≠ j → s.heap.get? c = some o → he.get? c = some o := fun c o n1 n2 n3 n4 e => se.extBut _ _ n2 (sd.extBut _ _ n4 (sc.extBut _ _ n2 (sb.extBut _ _ n3 (sa.extBut _ _ n1 e))))
  have pe1 : S1 he (k1 + 1) := J1.stay pb1 fun c o h e => se.extBut _ _ (ne2 h D.TOi1.symm D.l1TO) (sd.extBut _ _ (ne2 h D.i12 D.l1i2) (sc.extBut _ _ (ne2 h D.TOi1.symm D.l1TO) e))
  have pe2 : S2 he (k2 + 1) := J2.stay pd2 fun c o h e => se.extBut _ _ (ne2 h D.TOi2.symm D.l2TO) e
  have zl : z < he.objs.size := Heap.lt_size ze
  show wpAny _ _ (Builtin.SmallTypes.ownedTupleHandOut (.ref z) (.ref he.objs.size) >>= _) _ _ _; refine wpAny_bind ?_
  unfold Builtin.SmallTypes.ownedTupleHandOut
  have zf : IsZip (he.push { cls := .type "tuple", data := .seq #[x, y] }) z T O .ellipsis := Heap.get?_push_of_some _ ze
  refine wpAny_bind (wpAny_setField_rec zf (by simp) fun hg zg sg => ?_)
  have zg : IsZip hg z T O (rawInt he.objs.size) := zg
  refine wpAny_setField_rec zg (by simp) fun hk zk sk => ?_
  have zk : IsZip hk z T O (rawInt he.objs.size) := zk
  have up : ∀ c o, c ≠ z → he.get? c = some o → hk.get? c = some o := fun c o n e => sk.extBut _ _ n (sg.extBut _ _ n (Heap.get?_push_of_some _ e))
  have new : IsPair hk he.objs.size x y := sk.extBut _ _ (Nat.ne_of_gt zl) (sg.extBut _ _ (Nat.ne_of_gt zl) (Heap.get?_push_size _ rfl))
  have more : hk.objs.size = he.objs.size + 1 := by rw [sk.1, sg.1, Heap.size_push]
  rw [size] at zk new more
  refine wpAny_pure ⟨_, rfl, wpAny_pure ?_⟩
  show Q (some (.ref he.objs.size)) _
  rw [size]
  exact q hk zk (up _ _ D.TOz Oe) (J1.stay pe1 fun c o h e => up _ o (ne2 h D.i1z D.l1z) e) (J2.stay pe2 fun c o h e => up _ o (ne2 h D.i2z D.l2z) e) new more fun c o n1 n2 n3 n4 e => up c o n1 (kept c o n1 n2 n3 n4 e)
theorem both_end {Q : Option Value → Shared → Prop} (hh : A.handled = none) (J1 : Inner prog w i l xs S1) (J2 : Inner prog w j m ys S2) (D : ZipApart z T O i j l m) (gz : IsZip s.heap z T O .none) (gT : IsPair s.heap T (.ref i) (.ref j)) (gO : IsPair s.heap O a b)
    (p1 : S1 s.heap k1) (p2 : S2 s.heap k2) (over : xs[k1]? = none ∨ ys[k2]? = none)
    (q : ∀ h', (∀ c o, c ≠ z → c ≠ O → c ≠ i → c ≠ j → s.heap.get? c = some o → h'.get? c = some o) → Q none { s with heap := h' }) : wpAny (model prog w) A (pyNext (.ref z)) Q E s := by
  have tz : s.TypeIs (.ref z) "zip" := ⟨_, gz, rfl⟩
  unfold pyNext; refine wpAny_bind (wpAny_attempt (wpAny_callSpecial?_slot (name := Str.ofString "__next__") tz F.slot_zip_next (wpAny_call_entry F.slot_zip_next tz F.entry_zip_next ?_ (F.args_zip_next_1 _))))
  show wpAny _ _ (field (.ref z) 2 >>= _) _ _ s; refine wpAny_bind (wpAny_field gz rfl (x := .bool false) rfl ?_)
  show wpAny _ _ (field (.ref z) 3 >>= _) _ _ s; refine wpAny_bind (wpAny_field gz rfl (x := .ref T) rfl (wpAny_bind (wpAny_seqItems gT rfl ?_)))
  show wpAny _ _ (Builtin.SmallTypes.ownedTupleIsFree (.ref z) >>= _) _ _ s; refine wpAny_bind ?_
  unfold Builtin.SmallTypes.ownedTupleIsFree; refine wpAny_bind (wpAny_field gz rfl (x := .none) rfl (wpAny_pure ?_))
  simp only [if_true]; refine wpAny_bind (wpAny_rule (wpAny_bind (wpAny_field gz rfl (x := .ref O) rfl ?_)))
  refine wpAny_bind (wpAny_setField_rec gz (by simp) fun ha za sa => ?_)
  have za : IsZip ha z T O .ellipsis := za
  refine wpAny_bind ?_; simp only [List.zipIdx_cons, List.zipIdx_nil, List.forIn_cons, List.forIn_nil]
  refine wpAny_bind (wpAny_bind (wpAny_onRaise ?_)); show wpAny _ _ (Builtin.SmallTypes.nextOf (.ref i) >>= _) _ _ _
  have pa1 : S1 ha k1 := J1.stay p1 fun c o hc e => sa.extBut _ _ (ne2 hc D.i1z D.l1z) e
  cases hx : xs[k1]? with
  | none =>
    refine wpAny_bind (J1.stop hh pa1 hx fun hb e sb ⟨oe, ge, ce⟩ => ?_)
    have zb : IsZip hb z T O .ellipsis := sb _ _ D.i1z.symm za
    have nz : e ≠ z := fun u => by subst u; rw [zb] at ge; cases ge; simp at ce
    refine wpAny_setField_rec zb (by simp) fun hc _ sc => wpAny_bind (wpAny_isInstance (T := "StopIteration") (b := true) ⟨oe, sc.extBut _ _ nz ge, ce⟩ isSubtype_stop ?_)
    exact wpAny_pure (q _ fun c o n1 _ n3 _ u => sc.extBut _ _ n1 (sb _ _ n3 (sa.extBut _ _ n1 u)))
  | some x =>
    have hy : ys[k2]? = none := by rcases over with h | h; (rw [hx] at h; cases h); exact h
    refine wpAny_bind (J1.item pa1 hx fun hb pb1 sb => wpAny_pure ?_)
    have Ob : IsPair hb O a b := sb.extBut _ _ D.TOi1 (sa.extBut _ _ D.TOz gO)
    refine wpAny_bind (wpAny_seqItems Ob rfl (wpAny_bind (wpAny_updateSeq_pair Ob fun hc Oc sc => ?_)))
    refine wpAny_bind (wpAny_letGo (wpAny_pure ?_)); refine wpAny_bind (wpAny_bind (wpAny_onRaise ?_)); show wpAny _ _ (Builtin.SmallTypes.nextOf (.ref j) >>= _) _ _ _
    have pc2 : S2 hc k2 := J2.stay p2 fun c o h e => sc.extBut _ _ (ne2 h D.TOi2.symm D.l2TO) (sb.extBut _ _ (ne2 h D.i12.symm D.l2i1) (sa.extBut _ _ (ne2 h D.i2z D.l2z) e))
    refine wpAny_bind (J2.stop hh pc2 hy fun hd e sd ⟨oe, ge, ce⟩ => ?_)
    have zd : IsZip hd z T O .ellipsis := sd _ _ D.i2z.symm (sc.extBut _ _ D.TOz.symm (sb.extBut _ _ D.i1z.symm za))
    have nz : e ≠ z := fun u => by subst u; rw [zd] at ge; cases ge; simp at ce
    refine wpAny_setField_rec zd (by simp) fun he _ se => wpAny_bind (wpAny_isInstance (T := "StopIteration") (b := true) ⟨oe, se.extBut _ _ nz ge, ce⟩ isSubtype_stop ?_)
    exact wpAny_pure (q _ fun c o n1 n2 n3 n4 u => se.extBut _ _ n1 (sd _ _ n4 (sc.extBut _ _ n2 (sb.extBut _ _ n3 (sa.extBut _ _ n1 u)))))
end
end
abbrev zlA (h : Heap) (l : Addr) : Heap := h.push { cls := .type "list_iterator", data := .fields #[.ref l, .int 0 0] }
abbrev zlB (h : Heap) (l m : Addr) : Heap := (zlA h l).push { cls := .type "tuple_iterator", data := .fields #[.ref m, .int 0 0] }
abbrev zlC (h : Heap) (l m : Addr) : Heap := (zlB h l m).push { cls := .type "tuple", data := .seq #[.ref h.objs.size, .ref (zlA h l).objs.size] }
abbrev zlD (h : Heap) (l m : Addr) : Heap := (zlC h l m).push { cls := .type "tuple", data := .seq #[.none, .none] }
abbrev zlE (h : Heap) (l m : Addr) : Heap := (zlD h l m).push { cls := .type "zip", data := .fields #[.none, .bool false, .bool false, .ref (zlB h l m).objs.size, .ref (zlC h l m).objs.size] }
theorem meets_zlm (l m : Addr) (xs ys : Array Value) : Meets (Builtin.«zip.__new__» ⟨[.type "zip", .ref l, .ref m], []⟩) (fun _ R s => s.heap.IsList l xs ∧ s.heap.IsTuple m ys ∧ R (.ok (.ret (.ref (zlD s.heap l m).objs.size))) { s with heap := zlE s.heap l m }) :=
  .of_wp fun prog w A R s h => by
    obtain ⟨hp, g, d, tk, os⟩ := s; obtain ⟨gl, gm, h⟩ := h; have below := sub_zip
    have g1 : Heap.IsList (Shared.heap ⟨hp, g, d, tk, os⟩) l xs := gl
    have g2 : Heap.IsTuple (Shared.heap ⟨hp.push { cls := .type "list_iterator", data := .fields #[.ref l, .int 0 0] }, g, d, tk, os⟩) m ys := Heap.IsTuple.push gm _
    wp_walk using wpAny_pyIter_list g1, wpAny_pyIter_tuple g2
    exact ⟨_, rfl, h⟩
section
variable {prog : Program} {w : World} {A : Around} {E : Value → Shared → Prop} {s : Shared}
theorem call_zlm {l m : Addr} {xs ys : Array Value} {Q : Value → Shared → Prop} (gl : s.heap.IsList l xs) (gm : s.heap.IsTuple m ys)
    (q : ∀ h', IsZip h' (s.heap.objs.size + 4) (s.heap.objs.size + 2) (s.heap.objs.size + 3) .none → IsPair h' (s.heap.objs.size + 2) (.ref s.heap.objs.size) (.ref (s.heap.objs.size + 1)) → IsPair h' (s.heap.objs.size + 3) .none .none → h'.IsListIter s.heap.objs.size l 0 → h'.IsTupleIter (s.heap.objs.size + 1) m 0 →
      (∀ c o, s.heap.get? c = some o → h'.get? c = some o) → Q (.ref (s.heap.objs.size + 4)) { s with heap := h' }) : wpAny (model prog w) A (call (.type "zip") [.ref l, .ref m]) Q E s := by
  refine callType_new F.called_zip (by decide) (F.typeCall_zip_2 _ _) (F.newCall_zip_2 _ _) (fun obj => F.args_object_init_3 obj _ _) F.entry_zip_new (meets_zlm l m xs ys) ⟨gl, gm, ?_⟩
  have n1 : (zlA s.heap l).objs.size = s.heap.objs.size + 1 := Heap.size_push ..
  have n2 : (zlB s.heap l m).objs.size = s.heap.objs.size + 2 := by rw [Heap.size_push, n1]
  have n3 : (zlC s.heap l m).objs.size = s.heap.objs.size + 3 := by rw [Heap.size_push, n2]
  have n4 : (zlD s.heap l m).objs.size = s.heap.objs.size + 4 := by rw [Heap.size_push, n3]
  have e5 : (zlE s.heap l m).get? (zlD s.heap l m).objs.size = some _ := Heap.get?_push_size _ rfl
  have e4 : (zlE s.heap l m).get? (zlC s.heap l m).objs.size = some _ := Heap.get?_push_of_some _ (Heap.get?_push_size _ rfl)
  have e3 : (zlE s.heap l m).get? (zlB s.heap l m).objs.size = some _ := Heap.get?_push_of_some _ (Heap.get?_push_of_some _ (Heap.get?_push_size _ rfl))
  have e2 : (zlE s.heap l m).get? (zlA s.heap l).objs.size = some _ := Heap.get?_push_of_some _ (Heap.get?_push_of_some _ (Heap.get?_push_of_some _ (Heap.get?_push_size _ rfl)))
  have e1 : (zlE s.heap l m).get? s.heap.objs.size = some _ := Heap.get?_push_of_some _ (Heap.get?_push_of_some _ (Heap.get?_push_of_some _ (Heap.get?_push_of_some _ (Heap.get?_push_size _ rfl))))
  show _ ∧ _
  rw [n2, n3, n4] at e5
  rw [n1, n2] at e3
  rw [n3] at e4
  rw [n1] at e2
  rw [n4]
  exact ⟨⟨_, e5, rfl⟩, q _ e5 e3 e4 ⟨_, e1, rfl, rfl⟩ ⟨_, e2, rfl, rfl⟩ fun c o x => Heap.get?_push_of_some _ (Heap.get?_push_of_some _ (Heap.get?_push_of_some _ (Heap.get?_push_of_some _ (Heap.get?_push_of_some _ x))))⟩
end
open PySem.Spec L2
/-- a list and a tuple as they stand at each turn -/
def ItzM (K : PySem.W.Frag) (a b : Addr) : L2.It :=
  ⟨fun n H => ∃ (xs ys : List V) (x y : V), SqL K H a xs ∧ SqT K H b ys ∧ xs[n]? = some x ∧ ys[n]? = some y,
    fun n H v H' => ∃ T x y, v = .ref T ∧ H T = none ∧ H' = upd H T (.tup [x, y]) ∧ (∀ xs, SqL K H a xs → xs[n]? = some x) ∧ ∀ ys, SqT K H b ys → ys[n]? = some y,
    fun n H => ∃ xs ys : List V, SqL K H a xs ∧ SqT K H b ys ∧ (xs.length ≤ n ∨ ys.length ≤ n)⟩
theorem turn_zlm {P : Program} {w : World} {K : PySem.W.Frag} {elts : List Expr} {kk : Nat} {tpos : Pos} {a b z T O i j : Addr} (D : ZipApart z T O i j a b) :
    Turn P w K (.Tuple elts kk tpos) (ItzM K a b) [z, T, O, i, j] z (fun n h => IsZip h z T O .none ∧ IsPair h T (.ref i) (.ref j) ∧ (∃ x y, IsPair h O x y) ∧ h.IsListIter i a n ∧ h.IsTupleIter j b n) where
  mem := by simp
  obj := fun n h st c hc => by
    obtain ⟨gz, gT, ⟨x, y, gO⟩, ⟨o1, e1, _, d1⟩, ⟨o2, e2, _, d2⟩⟩ := st
    simp only [List.mem_cons, List.not_mem_nil, or_false] at hc
    rcases hc with q | q | q | q | q <;> rw [q]
    · exact ⟨_, gz, fun v q => nomatch q⟩
    · exact ⟨_, gT, fun v q => nomatch q⟩
    · exact ⟨_, gO, fun v q => nomatch q⟩
    · exact ⟨o1, e1, fun v q => by rw [d1] at q; cases q⟩
    · exact ⟨o2, e2, fun v q => by rw [d2] at q; cases q⟩
  keep := fun n h h' st k => by
    obtain ⟨gz, gT, ⟨x, y, gO⟩, g1, g2⟩ := st
    exact ⟨k z (by simp) _ gz, k T (by simp) _ gT, ⟨x, y, k O (by simp) _ gO⟩, g1.at fun o q => k i (by simp) o q, g2.at fun o q => k j (by simp) o q⟩
  item := by
    intro X hP hw hK hc n pins s σ H E I free st go
    subst hP hw hK
    obtain ⟨gz, gT, ⟨x0, y0, gO⟩, g1, g2⟩ := st
    obtain ⟨xs, ys, x, y, qx, qy, hx, hy⟩ := go
    obtain ⟨us, ru, p, _⟩ := I.list qx
    obtain ⟨vs, rv, p2, _⟩ := I.tuple qy
    obtain ⟨u, hu, r1⟩ := ru.get hx
    obtain ⟨v, hv, r2⟩ := rv.get hy
    have zl : z < s.heap.objs.size := Heap.lt_size gz
    refine both_item (inner_list (xs := us.toArray) D.l1i1) (inner_tuple (xs := vs.toArray) D.l2i2) D gz gT gO ⟨g1, p.isList⟩ ⟨g2, p2⟩ (x := u) (y := v) (by simpa using hu) (by simpa using hv) fun h' z' O' a1 a2 new more kept => ?_
    refine ⟨_, rfl, wpAny_letOwnedTupleGo_zip (s := { s with heap := h' }) z' fun h2 z2 sb => ?_⟩
    have new2 : h2.get? s.heap.objs.size = some { cls := .type "tuple", data := .seq #[u, v] } := (sb.2 _ (Nat.ne_of_gt zl)).trans new
    have obj2 : ObjOk X.prog X.w (upd H s.heap.objs.size (.tup [x, y])) h2 s.heap.objs.size (.tup [x, y]) := ⟨by show 2 ≤ sizeLine; decide, [u, v], .cons r1 (.cons r2 .nil), ⟨_, new2, rfl, _, rfl⟩⟩
    have I1 : Inv X pins σ (upd H s.heap.objs.size (.tup [x, y])) { s with heap := h2 } := I.turnedNew (t' := s.toks) (ch := [z, T, O, i, j]) (fun c o nc e => (sb.2 c (fun e' => nc (by simp [e']))).trans (kept c o (fun e' => nc (by simp [e'])) (fun e' => nc (by simp [e'])) (fun e' => nc (by simp [e'])) (fun e' => nc (by simp [e'])) e)) free (Nat.le_refl _) obj2
    refine ⟨.ref s.heap.objs.size, _, I1, rfl, ⟨_, x, y, rfl, I.hok.fresh (Nat.le_refl _), rfl, fun l hl => by rw [I.list_inj hl qx]; exact hx, fun l hl => by rw [I.tuple_inj hl qy]; exact hy⟩, ⟨z2, ?_, ⟨u, v, ?_⟩, ?_, ?_⟩, fun c hcm => ?_⟩
    · exact (sb.2 _ D.TIz).trans (kept _ _ D.TIz D.TITO D.TIi1 D.TIi2 gT)
    · exact (sb.2 _ D.TOz).trans O'
    · exact a1.1.at fun o e => (sb.2 _ D.i1z).trans e
    · exact a2.1.at fun o e => (sb.2 _ D.i2z).trans e
    · have lt : c < s.heap.objs.size := by
        simp only [List.mem_cons, List.not_mem_nil, or_false] at hcm
        rcases hcm with e | e | e | e | e <;> rw [e]
        · exact zl
        · exact Heap.lt_size gT
        · exact Heap.lt_size gO
        · obtain ⟨_, f, _⟩ := g1; exact Heap.lt_size f
        · obtain ⟨_, f, _⟩ := g2; exact Heap.lt_size f
      rw [upd_ne (Nat.ne_of_lt lt)]; exact (free c hcm).1
  done := by
    intro X hP hw hK hc n pins s σ H E I free st over
    subst hP hw hK
    obtain ⟨gz, gT, ⟨x0, y0, gO⟩, g1, g2⟩ := st
    obtain ⟨xs, ys, qx, qy, hend⟩ := over
    obtain ⟨us, ru, p, _⟩ := I.list qx
    obtain ⟨vs, rv, p2, _⟩ := I.tuple qy
    have n1 := ru.length
    have n2 := rv.length
    have out : us.toArray[n]? = none ∨ vs.toArray[n]? = none := hend.imp (fun q => by simp; omega) fun q => by simp; omega
    exact both_end (I.ok.hd hc) (inner_list (xs := us.toArray) D.l1i1) (inner_tuple (xs := vs.toArray) D.l2i2) D gz gT gO ⟨g1, p.isList⟩ ⟨g2, p2⟩ out fun h' kept => ⟨rfl, I.turnedL (t' := s.toks) (ch := [z, T, O, i, j]) (fun c o nc e => kept c o (fun e' => nc (by simp [e'])) (fun e' => nc (by simp [e'])) (fun e' => nc (by simp [e'])) (fun e' => nc (by simp [e'])) e) free⟩
  self := fun A n s Q E st h => wpAny_pyIter_zip st.1 h
def iZipM (K : PySem.W.Frag) (ta : TA) : TI := fun σ H R => ta σ H fun vs H1 => ∃ a b xs ys, vs = [.ref a, .ref b] ∧ SqL K H1 a xs ∧ ((SqL K H1 b ys ∧ R (Itz K a b) H1) ∨ (SqT K H1 b ys ∧ R (ItzM K a b) H1))
theorem pi_zlm {X : Cx} {e e2 : Expr} {ta : TA} {p pos tpos : Pos} {elts : List Expr} {kk : Nat} (hg : Gl X "zip") (hm : X.mg "zip" = none) (ha : PA X [e, e2] ta)
    (hs : starEach [e, e2] X.env = (false, eval e X.env) :: starEach [e2] X.env := by rfl) (hpl : (backTo pos (starEach [e2] X.env)).any (·.1) = false := by rfl) : PI X (.Tuple elts kk tpos) (.Call (.Name "zip" p) [e, e2] [] pos) (iZipM X.K ta) := by
  refine ⟨fun pins s σ H R I h => Call_ (ld_blt I hg hm PyProof.Rows.boot_zip (PyProof.Rows.callWith_type1 (thn (ha.run pos pins s σ H _ I h) fun us s1 ⟨vs, H1, I1, r1, q1⟩ => ?_) hs hpl))⟩
  obtain ⟨a, b, xs, ys, ex, qx, q1⟩ := q1
  subst ex
  cases r1 with
  | cons r t => cases t with
   | cons r2 t =>
    cases t; cases r; cases r2
    have lows : ∀ c, c ∈ [s1.heap.objs.size + 4, s1.heap.objs.size + 2, s1.heap.objs.size + 3, s1.heap.objs.size, s1.heap.objs.size + 1] → FpOk X pins H1 c := fun c hcm => by
      simp only [List.mem_cons, List.not_mem_nil, or_false] at hcm
      have le : s1.heap.objs.size ≤ c := by omega
      exact I1.fpOk le (I1.hok.fresh le)
    obtain ⟨its, rv, p1, _⟩ := I1.list qx
    rcases q1 with ⟨qy, q⟩ | ⟨qy, q⟩
    · obtain ⟨its2, rv2, p2, _⟩ := I1.list qy
      refine call_zip_2 p1.isList p2.isList fun h' a1 a2 a3 a4 a5 _ a6 => wpAny_pyIter_zip a1 ?_
      exact ⟨s1.heap.objs.size + 4, [s1.heap.objs.size + 4, s1.heap.objs.size + 2, s1.heap.objs.size + 3, s1.heap.objs.size, s1.heap.objs.size + 1], _, _, H1, rfl, I1.kept (t' := s1.toks) a6, turn_zip (PySem.W.ktu_apart s1.heap.objs.size a b p1.lt p2.lt), ⟨a1, a2, ⟨_, _, a3⟩, a4, a5⟩, lows, q⟩
    · obtain ⟨its2, rv2, p2, _⟩ := I1.tuple qy
      have l2 : b < s1.heap.objs.size := by obtain ⟨o2, e2, _⟩ := id p2; exact Heap.lt_size e2
      refine call_zlm p1.isList (show s1.heap.IsTuple b its2.toArray from p2) fun h' a1 a2 a3 a4 a5 a6 => wpAny_pyIter_zip a1 ?_
      exact ⟨s1.heap.objs.size + 4, [s1.heap.objs.size + 4, s1.heap.objs.size + 2, s1.heap.objs.size + 3, s1.heap.objs.size, s1.heap.objs.size + 1], _, _, H1, rfl, I1.kept (t' := s1.toks) a6, turn_zlm (PySem.W.ktu_apart s1.heap.objs.size a b p1.lt l2), ⟨a1, a2, ⟨_, _, a3⟩, a4, a5⟩, lows, q⟩
end Mp
set_option maxHeartbeats 4000000
namespace Mp
open PySem L2
variable [TabsW] [GdW]
/-- J goes through ds, while what was tracked at H1 outside S stands -/
def Goes (K : PySem.W.Frag) (M S : AS) (H1 : Hp) (J : L2.It) (ds : List D) : Prop := ∃ (Gd : Hp → Prop) (Y : Nat → Hp → V → Hp → Prop), Walk J ds.length Gd Y ∧ (∀ H', Stp S H1 H' → Gd H') ∧
  ∀ i H x H' (M' : AS), i < ds.length → Stp S H1 H → (∀ a, M' a → (M a ∨ ¬ Lv H1 a) ∧ Lv H a) → Y i H x H' → Stp NoA H H' ∧ ∃ d, ds[i]? = some d ∧ Rep K H' M' d x
theorem PI.by_ {X : Cx} {tg e : Expr} {t t' : TI} (h : PI X tg e t) (i : ∀ σ H Q, t' σ H Q → t σ H Q) : PI X tg e t' := ⟨fun pins s σ H Q I q => h.run pins s σ H Q I (i σ H Q q)⟩
theorem PI.or {X : Cx} {tg e : Expr} {t t' : TI} (h : PI X tg e t) (h' : PI X tg e t') : PI X tg e (fun σ H Q => t σ H Q ∨ t' σ H Q) := ⟨fun pins s σ H Q I q => q.elim (fun q => h.run pins s σ H Q I q) fun q => h'.run pins s σ H Q I q⟩
def tIi (G : Ctx) (W : WX) (K : PySem.W.Frag) (it : IT) : TI := fun σ H R => ∃ H0 M0 A env, EnvR K H0 M0 A env σ H ∧ Sat K H0 M0 A W (evi G it env) env σ H fun ds e1 H1 => ∀ J, Goes K (MM M0 e1 σ) (WW A e1 σ) H1 J ds → R J H1
theorem iota_len : ∀ (n : Nat) (lo : Int), (iotaD lo n).length = n
  | 0, lo => rfl
  | n + 1, lo => by unfold iotaD; simp [iota_len n (lo + 1)]
theorem iota_get : ∀ (n i : Nat) (lo : Int), i < n → (iotaD lo n)[i]? = some (.int (lo + i))
  | 0, i, lo, h => absurd h (Nat.not_lt_zero _)
  | n + 1, 0, lo, h => by unfold iotaD; simp
  | n + 1, i + 1, lo, h => by
    unfold iotaD
    rw [List.getElem?_cons_succ, iota_get n i (lo + 1) (by omega)]
    congr 2
    omega
section
variable {K : PySem.W.Frag} {M S : AS} {H1 : Hp}
/-- an item, later, with other things set apart -/
theorem item_on {H : Hp} {M' : AS} {d : D} {x : V} (hS : ∀ x, S x → M x) (s : Stp S H1 H) (hM : ∀ a, M' a → (M a ∨ ¬ Lv H1 a) ∧ Lv H a) (r : Rep K H1 M d x) : Rep K H M' d x := by
  have r1 : Rep K H1 (fun a => M a ∨ M' a) d x := Rep.grow (fun a z => z.elim .inl fun q => (hM a q).1) d x r
  exact Rep.stp (s.weak fun a z => .inl (hS a z)) (fun a z => .inr z) d x r1
theorem goes_range {lo : Int} {n : Nat} : Goes K M S H1 (Itr lo n) (iotaD lo n) := by
  refine ⟨fun _ => True, YFn fun i => .int (lo + i), by rw [iota_len]; exact walk_range, fun _ _ => trivial, fun i H x H' M' hi _ _ y => ?_⟩
  obtain ⟨rfl, rfl⟩ := y
  rw [iota_len] at hi
  exact ⟨Stp.refl, _, iota_get n i lo hi, rep_int _⟩
theorem goes_list {a : Addr} {xs : List V} {ds : List D} (hS : ∀ x, S x → M x) (h : RdK K H1 M a xs) (r : RepL K H1 M ds xs) : Goes K M S H1 (Itl K a) ds := by
  refine ⟨fun H => SqL K H a xs, YAt xs, by rw [r.length]; exact walk_list, fun H' s => (h.stp (s.weak hS) (fun _ z => z)).l, fun i H x H' M' hi s hM y => ?_⟩
  obtain ⟨rfl, e⟩ := y
  obtain ⟨d, d1, d2⟩ := r.get' e
  exact ⟨Stp.refl, d, d1, item_on hS s hM d2⟩
theorem goes_tup {a : Addr} {xs : List V} {ds : List D} (hS : ∀ x, S x → M x) (nm : ¬ M a) (h : Rd H1 a (.tup xs)) (r : RepL K H1 M ds xs) : Goes K M S H1 (Itt K a) ds := by
  refine ⟨fun H => SqT K H a xs, YAt xs, by rw [r.length]; exact walk_tup, fun H' s => Rd.t (Rd.stp s (fun z => nm (hS a z)) nt_tup h), fun i H x H' M' hi s hM y => ?_⟩
  obtain ⟨rfl, e⟩ := y
  obtain ⟨d, d1, d2⟩ := r.get' e
  exact ⟨Stp.refl, d, d1, item_on hS s hM d2⟩
theorem pair_new {H H' : Hp} {T : Addr} {x y : V} {d e : D} (hM : ∀ a, M a → Lv H a) (hT : H T = none) (eH : H' = upd H T (.tup [x, y])) (rx : Rep K H M d x) (ry : Rep K H M e y) : Stp NoA H H' ∧ Rep K H' M (.tup [d, e]) (.ref T) := by
  subst eH
  exact ⟨Stp.new hT, rep_newT hT (fun z => (hM T z).ne hT) (RepL.cons rx (RepL.cons ry RepL.nil))⟩
theorem zip_len : ∀ (ds es : List D), (zipD ds es).length = min ds.length es.length
  | [], es => by unfold zipD; simp
  | d :: ds, [] => by unfold zipD; simp
  | d :: ds, e :: es => by unfold zipD; simp only [List.length_cons, zip_len ds es]; omega
theorem zip_get : ∀ (ds es : List D) (i : Nat) (d e : D), ds[i]? = some d → es[i]? = some e → (zipD ds es)[i]? = some (.tup [d, e])
  | [], es, i, d, e, h, _ => by simp at h
  | d :: ds, [], i, _, e, _, h => by simp at h
  | a :: ds, b :: es, 0, d, e, h1, h2 => by unfold zipD; simp at h1 h2; subst h1; subst h2; simp
  | a :: ds, b :: es, i + 1, d, e, h1, h2 => by
    unfold zipD
    rw [List.getElem?_cons_succ]
    exact zip_get ds es i d e (by simpa using h1) (by simpa using h2)
theorem goes_zip {a b : Addr} {xs ys : List V} {ds es : List D} (hS : ∀ x, S x → M x) (h : RdK K H1 M a xs) (h' : RdK K H1 M b ys) (r : RepL K H1 M ds xs) (r' : RepL K H1 M es ys) : Goes K M S H1 (Itz K a b) (zipD ds es) := by
  refine ⟨fun H => SqL K H a xs ∧ SqL K H b ys, YPair (fun i => xs[i]?) (fun i => ys[i]?), walk_zip (n := (zipD ds es).length) (by rw [zip_len, r.length, r'.length]), fun H' s => ⟨(h.stp (s.weak hS) (fun _ z => z)).l, (h'.stp (s.weak hS) (fun _ z => z)).l⟩, fun i H v H' M' hi s hM y => ?_⟩
  obtain ⟨T, x, y, rfl, hT, eH, e1, e2⟩ := y
  obtain ⟨d, d1, d2⟩ := r.get' e1
  obtain ⟨e, e3, e4⟩ := r'.get' e2
  obtain ⟨s1, r1⟩ := pair_new (fun a z => (hM a z).2) hT eH (item_on hS s hM d2) (item_on hS s hM e4)
  exact ⟨s1, _, zip_get ds es i d e d1 e3, r1⟩
theorem walk_zlm {a b : Addr} {xs ys : List V} {n : Nat} (hn : n = min xs.length ys.length) : Walk (ItzM K a b) n (fun H => SqL K H a xs ∧ SqT K H b ys) (YPair (fun i => xs[i]?) (fun i => ys[i]?)) := by
  subst hn
  refine ⟨fun i _ hi q => ⟨xs, ys, xs[i]'(by omega), ys[i]'(by omega), q.1, q.2, List.getElem?_eq_getElem _, List.getElem?_eq_getElem _⟩, fun _ q => ⟨xs, ys, q.1, q.2, by omega⟩, fun i H v H' _ q y => ?_⟩
  obtain ⟨T, x, z, e1, e2, e3, e4, e5⟩ := y
  exact ⟨T, x, z, e1, e2, e3, e4 xs q.1, e5 ys q.2⟩
theorem goes_zlm {a b : Addr} {xs ys : List V} {ds es : List D} (hS : ∀ x, S x → M x) (h : RdK K H1 M a xs) (nm : ¬ M b) (h' : Rd H1 b (.tup ys)) (r : RepL K H1 M ds xs) (r' : RepL K H1 M es ys) : Goes K M S H1 (ItzM K a b) (zipD ds es) := by
  refine ⟨fun H => SqL K H a xs ∧ SqT K H b ys, YPair (fun i => xs[i]?) (fun i => ys[i]?), walk_zlm (n := (zipD ds es).length) (by rw [zip_len, r.length, r'.length]), fun H' s => ⟨(h.stp (s.weak hS) (fun _ z => z)).l, Rd.t (Rd.stp (s.weak hS) nm nt_tup h')⟩, fun i H v H' M' hi s hM y => ?_⟩
  obtain ⟨T, x, y, rfl, hT, eH, e1, e2⟩ := y
  obtain ⟨d, d1, d2⟩ := r.get' e1
  obtain ⟨e, e3, e4⟩ := r'.get' e2
  obtain ⟨s1, r1⟩ := pair_new (fun a z => (hM a z).2) hT eH (item_on hS s hM d2) (item_on hS s hM e4)
  exact ⟨s1, _, zip_get ds es i d e d1 e3, r1⟩
end
section
variable {X : Cx} {G : Ctx} {W : WX} {tg : Expr}
/-- one operand that is kept, then what follows -/
theorem take_read {K : PySem.W.Frag} {H0 H : Hp} {M0 A : AS} {env : Env} {σ : L2.St} {i : IR} {α : Type} {f : D → Env → R α} {P : α → Env → Hp → Prop} (E : EnvR K H0 M0 A env σ H) (q : Sat K H0 M0 A W ((ev G i env).take.bind f) env σ H P)
    {Q : VK} (k : ∀ d v e1 H1, EnvR K H0 M0 A e1 σ H1 → Rep K H1 (MM M0 e1 σ) d v → Stp (WW A env σ) H H1 → Sub σ env e1 → Sat K H0 M0 A W (f d e1) e1 σ H1 P → Q v H1) : tI G W K i σ H Q := by
  unfold R.take at q
  rw [R.bind_assoc] at q
  refine ⟨H0, M0, A, env, E, (Sat.bind q).mono fun o e1 H1 _ s1 u1 E1 h1 x hx => ?_⟩
  cases e : takeO e1 o with
  | none => rw [e] at h1; exact h1.elim
  | some p =>
    obtain ⟨d, e2⟩ := p
    rw [e] at h1
    obtain ⟨E2, rd, u2⟩ := E1.take hx e
    have h2 : Sat K H0 M0 A W (f d e2) e1 σ H1 P := h1
    exact k d x e2 H1 E2 rd s1 (u1.trans u2) (h2.sub u2)
def iSeq (K : PySem.W.Frag) (tl : TE) : TI := fun σ H R => tl σ H fun x H1 => ∃ a, x = .ref a ∧ (((∃ xs, SqL K H1 a xs) ∧ R (Itl K a) H1) ∨ ((∃ xs, SqT K H1 a xs) ∧ R (Itt K a) H1))
theorem pi_seq {l : Expr} {tl : TE} (hl : PE X l tl) : PI X tg l (iSeq X.K tl) := by
  refine ⟨fun pins s σ H R I h => thn (hl.run pins s σ H _ I h) fun w s1 got => ?_⟩
  obtain ⟨x, H1, J, rx, a, rfl, q⟩ := got
  have ew : w = Value.ref a := rx
  rw [ew]
  have new : ∀ b ∈ [s1.heap.objs.size], FpOk X pins H1 b := fun b hb => by
    have e : b = s1.heap.objs.size := by simpa using hb
    rw [e]
    exact J.fpOk (Nat.le_refl _) (J.hok.fresh (Nat.le_refl _))
  rcases q with ⟨⟨xs, hq⟩, q⟩ | ⟨⟨xs, hq⟩, q⟩
  · obtain ⟨its, _, p, _⟩ := J.list hq
    exact wpAny_pyIter_list p.isList ⟨_, [_], _, _, H1, rfl, J.kept (t' := s1.toks) (fun _ _ e => Heap.get?_push_of_some _ e), turn_list a _, ⟨_, Heap.get?_push_size _ rfl, rfl, rfl⟩, new, q⟩
  · obtain ⟨its, _, p, _⟩ := J.tuple hq
    exact wpAny_pyIter_tuple (show s1.heap.IsTuple a its.toArray from p) ⟨_, [_], _, _, H1, rfl, J.kept (t' := s1.toks) (fun _ _ e => Heap.get?_push_of_some _ e), turn_tuple a _, ⟨_, Heap.get?_push_size _ rfl, rfl, rfl⟩, new, q⟩
theorem i_seq {l : Expr} {i : IR} (hl : PE X l (tI G W X.K i)) : PI X tg l (tIi G W X.K (.seq i)) := PI.by_ (pi_seq hl) fun σ H R q => by
  obtain ⟨H0, M0, A, env, E, q⟩ := q
  rw [evi] at q
  refine take_read E q fun d v e1 H1 E1 rd s1 u1 h1 => ?_
  cases d with
  | lst ds =>
    unfold Rep at rd
    obtain ⟨a, xs, rfl, h, r⟩ := rd
    exact ⟨a, rfl, .inl ⟨⟨xs, h.l⟩, h1 H1 Stp.refl Sub.refl E1 _ (goes_list (WW.sub E1.aM) h r)⟩⟩
  | tup ds =>
    unfold Rep at rd
    obtain ⟨a, xs, rfl, nm, h, r⟩ := rd
    exact ⟨a, rfl, .inr ⟨⟨xs, Rd.t h⟩, h1 H1 Stp.refl Sub.refl E1 _ (goes_tup (WW.sub E1.aM) nm h r)⟩⟩
  | _ => exact h1.elim
theorem rd_read {K : PySem.W.Frag} {H0 H : Hp} {M0 A : AS} {env : Env} {σ : L2.St} {i : IR} {α : Type} {f : D → Env → R α} {P : α → Env → Hp → Prop} (E : EnvR K H0 M0 A env σ H) (q : Sat K H0 M0 A W ((ev G i env).rd.bind f) env σ H P)
    {Q : VK} (k : ∀ d v e1 H1, EnvR K H0 M0 A e1 σ H1 → RepT K H1 (MM M0 e1 σ) d v → Stp (WW A env σ) H H1 → Sub σ env e1 → Sat K H0 M0 A W (f d e1) e1 σ H1 P → Q v H1) : tI G W K i σ H Q := by
  unfold R.rd at q
  rw [R.bind_assoc] at q
  refine ⟨H0, M0, A, env, E, (Sat.bind q).mono fun o e1 H1 _ s1 u1 E1 h1 x hx => ?_⟩
  cases e : rdO e1 o with
  | none => rw [e] at h1; exact h1.elim
  | some d =>
    rw [e] at h1
    exact k d x e1 H1 E1 (hx.rdT E1 e) s1 u1 h1
theorem i_rng1 {a : Expr} {i : IR} {p pos : Pos} (hg : Gl X "range") (hm : X.mg "range" = none) (ha : PE X a (tI G W X.K i)) (hs : starB a = false) : PI X tg (.Call (.Name "range" p) [a] [] pos) (tIi G W X.K (.rng1 i)) :=
  PI.by_ (pi_range1 hg hm (pa_cons ha pa_nil (star_cons hs)) (star_cons hs)) fun σ H R q => by
    obtain ⟨H0, M0, A, env, E, q⟩ := q
    rw [evi] at q
    refine rd_read E q fun d v e1 H1 E1 rd s1 u1 h1 => ?_
    cases d with
    | int j =>
      rw [rd.int]
      have h1 : Sat X.K H0 M0 A W (if -1000000 ≤ j ∧ j ≤ 1000000 then Mp.R.ok (iotaD 0 j.toNat) e1 else .bad) e1 σ H1 (fun ds e1 H1 => ∀ J, Goes X.K (MM M0 e1 σ) (WW A e1 σ) H1 J ds → R J H1) := h1
      by_cases hj : -1000000 ≤ j ∧ j ≤ 1000000
      · rw [if_pos hj] at h1
        exact ⟨j, rfl, by omega, by omega, h1 H1 Stp.refl Sub.refl E1 _ goes_range⟩
      · rw [if_neg hj] at h1; exact h1.elim
    | _ => exact h1.elim
theorem i_rng2 {a b : Expr} {i j : IR} {p pos : Pos} (hg : Gl X "range") (hm : X.mg "range" = none) (ha : PE X a (tI G W X.K i)) (hb : PE X b (tI G W X.K j)) (hs : starB a = false) (hs2 : starB b = false) : PI X tg (.Call (.Name "range" p) [a, b] [] pos) (tIi G W X.K (.rng2 i j)) :=
  PI.by_ (pi_range2 hg hm (pa_cons ha (pa_cons hb pa_nil (star_cons hs2)) (star_cons hs)) (by rw [star_cons hs, star_cons hs2] <;> rfl) (star_cons hs2)) fun σ H R q => by
    obtain ⟨H0, M0, A, env, E, q⟩ := q
    rw [evi] at q
    refine rd_read E q fun d v e1 H1 E1 rd s1 u1 h1 => ?_
    refine rd_read E1 h1 fun c v' e2 H2 E2 rd2 s2 u2 h2 => ?_
    cases d with
    | int k =>
      cases c with
      | int l =>
        rw [rd.int, rd2.int]
        have h2 : Sat X.K H0 M0 A W (if -1000000 ≤ k ∧ k ≤ 1000000 ∧ -1000000 ≤ l ∧ l ≤ 1000000 then Mp.R.ok (iotaD k (l - k).toNat) e2 else .bad) e2 σ H2 (fun ds e1 H1 => ∀ J, Goes X.K (MM M0 e1 σ) (WW A e1 σ) H1 J ds → R J H1) := h2
        by_cases hj : -1000000 ≤ k ∧ k ≤ 1000000 ∧ -1000000 ≤ l ∧ l ≤ 1000000
        · rw [if_pos hj] at h2
          exact ⟨k, l, rfl, ⟨by omega, by omega, by omega, by omega⟩, h2 H2 Stp.refl Sub.refl E2 _ goes_range⟩
        · rw [if_neg hj] at h2; exact h2.elim
      | _ => exact h2.elim
    | _ => cases c <;> exact h2.elim
theorem i_zip {e e2 : Expr} {i j : IR} {p pos tpos : Pos} {elts : List Expr} {kk : Nat} (hg : Gl X "zip") (hm : X.mg "zip" = none) (ha : PE X e (tI G W X.K i)) (hb : PE X e2 (tI G W X.K j)) (hs : starB e = false) (hs2 : starB e2 = false) : PI X (.Tuple elts kk tpos) (.Call (.Name "zip" p) [e, e2] [] pos) (tIi G W X.K (.zip i j)) :=
  PI.by_ (pi_zlm hg hm (pa_cons ha (pa_cons hb pa_nil (star_cons hs2)) (star_cons hs)) (star_cons hs) (by rw [star_cons hs2] <;> rfl)) fun σ H R q => by
    obtain ⟨H0, M0, A, env, E, q⟩ := q
    rw [evi] at q
    refine take_read E q fun d v e1 H1 E1 rd s1 u1 h1 => ?_
    refine take_read E1 h1 fun c v' e2 H2 E2 rd2 s2 u2 h2 => ?_
    have rd' := hold rd E1.aM s2 u2
    cases d with
    | lst ds =>
      cases c with
      | lst es =>
        unfold Rep at rd' rd2
        obtain ⟨a, xs, rfl, h, r⟩ := rd'
        obtain ⟨b, ys, rfl, h', r'⟩ := rd2
        exact ⟨a, b, xs, ys, rfl, h.l, .inl ⟨h'.l, h2 H2 Stp.refl Sub.refl E2 _ (goes_zip (WW.sub E2.aM) h h' r r')⟩⟩
      | tup es =>
        unfold Rep at rd' rd2
        obtain ⟨a, xs, rfl, h, r⟩ := rd'
        obtain ⟨b, ys, rfl, nm, h', r'⟩ := rd2
        exact ⟨a, b, xs, ys, rfl, h.l, .inr ⟨Rd.t h', h2 H2 Stp.refl Sub.refl E2 _ (goes_zlm (WW.sub E2.aM) h nm h' r r')⟩⟩
      | _ => exact h2.elim
    | _ => cases c <;> exact h2.elim
end
end Mp
set_option maxHeartbeats 4000000
namespace Mp
open PySem L2
variable [TabsW] [GdW]
section
variable {K : PySem.W.Frag} {H0 H H' : Hp} {M0 A : AS} {env env' : Env} {σ σ' : L2.St}
/-- some cells are dropped, some hold data anew -/
theorem EnvR.re (E : EnvR K H0 M0 A env σ H) (hl : env'.length = σ'.length) (h : ∀ (j : Nat) (c : Cell), env'[j]? = some (some c) → (env[j]? = some (some c) ∧ σ'[j]? = σ[j]?) ∨ ∃ d v, c = .dat d ∧ σ'[j]? = some (some v) ∧ Rep K H (MM M0 env σ) d v) :
    EnvR K H0 M0 A env' σ' H ∧ ∀ a, MutAt env' σ' a → MutAt env σ a := by
  have sub : ∀ a, MutAt env' σ' a → MutAt env σ a := fun a ⟨j, ds, e1, e2⟩ => by
    rcases h j _ e1 with ⟨a1, a2⟩ | ⟨d, v, z, _⟩
    · exact ⟨j, ds, a1, a2 ▸ e2⟩
    · cases z
  have subM : ∀ a, MM M0 env' σ' a → MM M0 env σ a := fun a z => z.elim .inl fun q => .inr (sub a q)
  refine ⟨⟨hl, E.old, E.alive, E.tb, E.m0, E.aM, E.a1, fun j d e1 => ?_, fun j ds e1 => ?_, fun j ds e1 => ?_, fun j k b ds es e1 e2 e3 e4 => ?_, fun j k ds es e1 e2 => ?_, fun j C ns ds e1 => ?_⟩, sub⟩
  · rcases h j _ e1 with ⟨a1, a2⟩ | ⟨d', v, z, s, r⟩
    · obtain ⟨v, b1, b2⟩ := E.dat j d a1
      exact ⟨v, by rw [a2]; exact b1, Rep.stp Stp.refl subM d v b2⟩
    · cases z
      exact ⟨v, s, Rep.stp Stp.refl subM d v r⟩
  · rcases h j _ e1 with ⟨a1, a2⟩ | ⟨d', v, z, s, r⟩
    · obtain ⟨a, xs, b1, b2, b3, b4⟩ := E.own j ds a1
      exact ⟨a, xs, by rw [a2]; exact b1, b2, RepL.stp Stp.refl subM ds xs b3, b4⟩
    · cases z
  · rcases h j _ e1 with ⟨a1, a2⟩ | ⟨d', v, z, s, r⟩
    · obtain ⟨a, xs, b1, b2, b3, b4⟩ := E.io j ds a1
      exact ⟨a, xs, by rw [a2]; exact b1, b2, b3, RepL.stp Stp.refl subM ds xs b4⟩
    · cases z
  · rcases h j _ e1 with ⟨a1, a2⟩ | ⟨d', v, z, s, r⟩
    · rcases h k _ e2 with ⟨b1, b2⟩ | ⟨d', v, z, s, r⟩
      · exact E.inj j k b ds es a1 b1 (a2 ▸ e3) (b2 ▸ e4)
      · cases z
    · cases z
  · rcases h j _ e1 with ⟨a1, a2⟩ | ⟨d', v, z, s, r⟩
    · rcases h k _ e2 with ⟨b1, b2⟩ | ⟨d', v, z, s, r⟩
      · exact E.io1 j k ds es a1 b1
      · cases z
    · cases z
  · rcases h j _ e1 with ⟨a1, a2⟩ | ⟨d', v, z, s, r⟩
    · exact E.slf j C ns ds a1
    · cases z
theorem wipeE_len : ∀ (is : List Nat), (wipeE env is).length = env.length
  | [] => rfl
  | i :: is => by unfold wipeE; rw [List.length_set, wipeE_len is]
theorem backE_len {old : Env} : ∀ (is : List Nat), (backE old env is).length = env.length
  | [] => rfl
  | i :: is => by unfold backE; rw [List.length_set, backE_len is]
theorem wipeE_get {j : Nat} {c : Cell} : ∀ {is : List Nat}, (wipeE env is)[j]? = some (some c) → j ∉ is ∧ env[j]? = some (some c)
  | [], h => ⟨by simp, h⟩
  | i :: is, h => by
    unfold wipeE at h
    by_cases hj : i = j
    · subst hj
      by_cases hl : i < (wipeE env is).length
      · rw [List.getElem?_set_self hl] at h; cases h
      · rw [List.getElem?_eq_none (by rw [List.length_set]; omega)] at h; cases h
    · rw [List.getElem?_set_ne hj] at h
      obtain ⟨a, b⟩ := wipeE_get h
      exact ⟨by simp only [List.mem_cons, not_or]; exact ⟨fun z => hj z.symm, a⟩, b⟩
theorem wipeE_out {j : Nat} : ∀ {is : List Nat}, j ∉ is → (wipeE env is)[j]? = env[j]?
  | [], _ => rfl
  | i :: is, h => by
    simp only [List.mem_cons, not_or] at h
    unfold wipeE
    rw [List.getElem?_set_ne (fun z => h.1 z.symm), wipeE_out h.2]
theorem wipe_out {j : Nat} : ∀ {is : List Nat}, j ∉ is → (wipe σ is)[j]? = σ[j]?
  | [], _ => rfl
  | i :: is, h => by
    simp only [List.mem_cons, not_or] at h
    unfold wipe
    rw [List.getElem?_set_ne (fun z => h.1 z.symm), wipe_out h.2]
theorem wipe_in {j : Nat} : ∀ {is : List Nat}, j ∈ is → j < σ.length → (wipe σ is)[j]? = some none
  | i :: is, h, hl => by
    unfold wipe
    by_cases hj : i = j
    · subst hj
      rw [List.getElem?_set_self (by rw [wipe_length]; exact hl)]
    · rw [List.getElem?_set_ne hj]
      rcases List.mem_cons.mp h with e | h
      · exact absurd e.symm hj
      · exact wipe_in h hl
theorem wipe_eq {is : List Nat} (hl : σ.length = σ'.length) (h : ∀ j, j ∉ is → σ'[j]? = σ[j]?) : wipe σ' is = wipe σ is := by
  apply List.ext_getElem?
  intro j
  by_cases hj : j ∈ is
  · by_cases hlt : j < σ.length
    · rw [wipe_in hj hlt, wipe_in hj (by omega)]
    · rw [List.getElem?_eq_none (by rw [wipe_length]; omega), List.getElem?_eq_none (by rw [wipe_length]; omega)]
  · rw [wipe_out hj, wipe_out hj, h j hj]
theorem backE_get {old : Env} {j : Nat} {c : Cell} : ∀ {is : List Nat}, (backE old env is)[j]? = some (some c) → (j ∉ is ∧ env[j]? = some (some c)) ∨ (j ∈ is ∧ old[j]? = some (some c))
  | [], h => .inl ⟨by simp, h⟩
  | i :: is, h => by
    unfold backE at h
    by_cases hj : i = j
    · subst hj
      by_cases hl : i < (backE old env is).length
      · rw [List.getElem?_set_self hl] at h
        refine .inr ⟨by simp, ?_⟩
        cases e : old[i]? with
        | none => rw [e] at h; cases h
        | some o => rw [e] at h; cases h; rfl
      · rw [List.getElem?_eq_none (by rw [List.length_set]; omega)] at h; cases h
    · rw [List.getElem?_set_ne hj] at h
      rcases backE_get h with ⟨a, b⟩ | ⟨a, b⟩
      · exact .inl ⟨by simp only [List.mem_cons, not_or]; exact ⟨fun z => hj z.symm, a⟩, b⟩
      · exact .inr ⟨List.mem_cons_of_mem _ a, b⟩
theorem backE_in {old : Env} {j : Nat} {c : Cell} : ∀ {is : List Nat}, j ∈ is → j < env.length → old[j]? = some (some c) → (backE old env is)[j]? = some (some c)
  | i :: is, h, hl, e => by
    unfold backE
    by_cases hj : i = j
    · subst hj
      rw [List.getElem?_set_self (by rw [backE_len]; exact hl), e] <;> rfl
    · rw [List.getElem?_set_ne hj]
      rcases List.mem_cons.mp h with z | h
      · exact absurd z.symm hj
      · exact backE_in h hl e
theorem backE_out {old : Env} {j : Nat} : ∀ {is : List Nat}, j ∉ is → (backE old env is)[j]? = env[j]?
  | [], _ => rfl
  | i :: is, h => by
    simp only [List.mem_cons, not_or] at h
    unfold backE
    rw [List.getElem?_set_ne (fun z => h.1 z.symm), backE_out h.2]
/-- one slot holds data anew -/
theorem EnvR.setDat (E : EnvR K H0 M0 A env σ H) {i : Nat} {d : D} {v : V} (hi : i < env.length) (r : Rep K H (MM M0 env σ) d v) : EnvR K H0 M0 A (env.set i (some (.dat d))) (σ.set i (some v)) H ∧ ∀ a, MutAt (env.set i (some (.dat d))) (σ.set i (some v)) a → MutAt env σ a := by
  refine E.re (by rw [List.length_set, List.length_set]; exact E.len) fun j c h => ?_
  by_cases hj : i = j
  · subst hj
    rw [List.getElem?_set_self hi] at h
    cases h
    exact .inr ⟨d, v, rfl, by rw [List.getElem?_set_self (by rw [← E.len]; exact hi)], r⟩
  · rw [List.getElem?_set_ne hj] at h
    exact .inl ⟨h, by rw [List.getElem?_set_ne hj]⟩
theorem free_lt {i : Nat} (h : freeB env i = true) : i < env.length := by
  unfold freeB at h
  cases e : env[i]? with
  | none => rw [e] at h; cases h
  | some o => exact (List.getElem?_eq_some_iff.mp e).1
def gNames : List Nat → TGs
  | [] => gNil
  | i :: is => gCons (gName i) (gNames is)
/-- a tuple or a list is taken apart -/
def gTL (K : PySem.W.Frag) (n : Nat) (t : TGs) : TG := fun v σ H Q => gTup K n t v σ H Q ∨ gLst K n t v σ H Q
theorem pg_tl {X : Cx} {es : List Expr} {k : Nat} {t : TGs} {n : Nat} {pos : Pos} (hc : X.calm = true) (h : PGs X es t)
    (hn : (assignEach es X.env).length = n := by rfl) (hst : (assignEach es X.env).findIdx? (·.1) = none := by rfl) : PG X (.Tuple es k pos) (gTL X.K n t) := ⟨fun pins s σ H v u Q I r hw => hw.elim (fun q => (pg_tup hc h hn hst).run pins s σ H v u Q I r q) fun q => (pg_lst hc h hn hst).run pins s σ H v u Q I r q⟩
def gT (K : PySem.W.Frag) : Tgt → TG
  | .name i => gName i
  | .tup is => gTL K is.length (gNames is)
theorem names_read : ∀ (is : List Nat) (ds : List D) (xs : List V) (env : Env) (σ : L2.St) (P : L2.St → Hp → Prop), EnvR K H0 M0 A env σ H → is.all (freeB env) = true → ds.length = is.length → RepL K H (MM M0 env σ) ds xs →
    (∀ σ', EnvR K H0 M0 A ((is.zip ds).foldl (fun e p => e.set p.1 (some (.dat p.2))) env) σ' H → (∀ a, MutAt ((is.zip ds).foldl (fun e p => e.set p.1 (some (.dat p.2))) env) σ' a → MutAt env σ a) → σ'.length = σ.length → (∀ j, j ∉ is → σ'[j]? = σ[j]?) → P σ' H) → gNames is xs σ H P
  | [], ds, xs, env, σ, P, E, hf, hl, r, k => by
    have : ds = [] := by cases ds <;> simp_all
    subst this
    unfold RepL at r
    exact ⟨r, k σ E (fun _ z => z) rfl fun _ _ => rfl⟩
  | i :: is, [], xs, env, σ, P, E, hf, hl, r, k => by simp at hl
  | i :: is, d :: ds, xs, env, σ, P, E, hf, hl, r, k => by
    unfold RepL at r
    obtain ⟨x, ys, rfl, r1, r2⟩ := r
    rw [List.all_cons, Bool.and_eq_true] at hf
    have hi := free_lt hf.1
    obtain ⟨E1, u1⟩ := E.setDat hi r1
    refine ⟨x, ys, rfl, ?_⟩
    have hfree : is.all (freeB (env.set i (some (.dat d)))) = true := by
      rw [List.all_eq_true]
      intro j hj
      have := (List.all_eq_true.mp hf.2) j hj
      unfold freeB at this ⊢
      by_cases h : i = j
      · subst h; rw [List.getElem?_set_self hi]
      · rw [List.getElem?_set_ne h]; exact this
    refine names_read is ds ys (env.set i (some (.dat d))) (σ.set i (some x)) P E1 hfree (by simpa using hl) (RepL.stp Stp.refl (fun a z => z.elim .inl fun q => .inr (u1 a q)) ds ys r2) fun σ' E' u' l' o' => ?_
    refine k σ' E' (fun a z => u1 a (u' a z)) (by rw [l', List.length_set]) fun j hj => ?_
    simp only [List.mem_cons, not_or] at hj
    rw [o' j hj.2, List.getElem?_set_ne (fun z => hj.1 z.symm)]
theorem tgt_read {tg : Tgt} {d : D} {v : V} (E : EnvR K H0 M0 A env σ H) (hb : bindT tg d env = some env') (r : Rep K H (MM M0 env σ) d v) {P : L2.St → Hp → Prop}
    (k : ∀ σ', EnvR K H0 M0 A env' σ' H → (∀ a, MutAt env' σ' a → MutAt env σ a) → σ'.length = σ.length → (∀ j, j ∉ tgOwn tg → σ'[j]? = σ[j]?) → P σ' H) : gT K tg v σ H P := by
  cases tg with
  | name i =>
    unfold bindT at hb
    dsimp only at hb
    by_cases hf : freeB env i = true
    · rw [if_pos hf] at hb
      cases hb
      obtain ⟨E1, u1⟩ := E.setDat (free_lt hf) r
      refine k _ E1 u1 List.length_set fun j hj => ?_
      unfold tgOwn at hj
      rw [List.getElem?_set_ne (fun z => hj (by simp [z]))]
    · rw [if_neg hf] at hb; cases hb
  | tup is =>
    unfold bindT at hb
    dsimp only at hb
    cases d with
    | tup ds =>
      dsimp only at hb
      by_cases hc : ds.length = is.length ∧ is.all (freeB env) = true
      · rw [if_pos hc] at hb
        cases hb
        unfold Rep at r
        obtain ⟨a, xs, rfl, nm, h, rr⟩ := r
        exact .inl ⟨a, xs, rfl, Rd.t h, by rw [← rr.length]; exact hc.1, names_read is ds xs env σ P E hc.2 hc.1 rr k⟩
      · rw [if_neg hc] at hb; cases hb
    | lst ds =>
      dsimp only at hb
      by_cases hc : ds.length = is.length ∧ is.all (freeB env) = true
      · rw [if_pos hc] at hb
        cases hb
        unfold Rep at r
        obtain ⟨a, xs, rfl, h, rr⟩ := r
        exact .inr ⟨a, xs, rfl, h.l, by rw [← rr.length]; exact hc.1, names_read is ds xs env σ P E hc.2 hc.1 rr k⟩
      · rw [if_neg hc] at hb; cases hb
    | _ => cases hb
theorem foldl_out {j : Nat} : ∀ {is : List Nat} {ds : List D} {env : Env}, j ∉ is → ((is.zip ds).foldl (fun e p => e.set p.1 (some (Cell.dat p.2))) env)[j]? = env[j]?
  | [], ds, env, _ => rfl
  | i :: is, [], env, _ => rfl
  | i :: is, d :: ds, env, h => by
    simp only [List.mem_cons, not_or] at h
    show ((is.zip ds).foldl (fun e p => e.set p.1 (some (Cell.dat p.2))) (env.set i (some (Cell.dat d))))[j]? = env[j]?
    rw [foldl_out h.2, List.getElem?_set_ne (fun z => h.1 z.symm)]
theorem foldl_len : ∀ {is : List Nat} {ds : List D} {env : Env}, ((is.zip ds).foldl (fun e p => e.set p.1 (some (Cell.dat p.2))) env).length = env.length
  | [], ds, env => rfl
  | i :: is, [], env => rfl
  | i :: is, d :: ds, env => by
    show ((is.zip ds).foldl (fun e p => e.set p.1 (some (Cell.dat p.2))) (env.set i (some (Cell.dat d)))).length = env.length
    rw [foldl_len, List.length_set]
theorem bind_out {tg : Tgt} {d : D} {env env1 : Env} (h : bindT tg d env = some env1) : (∀ j, j ∉ tgOwn tg → env1[j]? = env[j]?) ∧ env1.length = env.length := by
  cases tg with
  | name i =>
    unfold bindT at h
    dsimp only at h
    by_cases hf : freeB env i = true
    · rw [if_pos hf] at h; cases h
      refine ⟨fun j hj => ?_, List.length_set⟩
      unfold tgOwn at hj
      rw [List.getElem?_set_ne (fun z => hj (by simp [z]))]
    · rw [if_neg hf] at h; cases h
  | tup is =>
    unfold bindT at h
    dsimp only at h
    cases d with
    | tup ds =>
      dsimp only at h
      by_cases hc : ds.length = is.length ∧ is.all (freeB env) = true
      · rw [if_pos hc] at h; cases h
        exact ⟨fun j hj => foldl_out hj, foldl_len⟩
      · rw [if_neg hc] at h; cases h
    | lst ds =>
      dsimp only at h
      by_cases hc : ds.length = is.length ∧ is.all (freeB env) = true
      · rw [if_pos hc] at h; cases h
        exact ⟨fun j hj => foldl_out hj, foldl_len⟩
      · rw [if_neg hc] at h; cases h
    | _ => cases h
end
end Mp
set_option maxHeartbeats 4000000
namespace Mp
open PySem L2
variable [TabsW] [GdW]
def wNo : WX := fun _ _ _ _ => False
section
variable {K : PySem.W.Frag} {H0 H H' : Hp} {M0 A : AS} {env env' : Env} {σ σ' : L2.St} {W W' : WX}
theorem Sat.noExc {α : Type} {r : R α} {P : α → Env → Hp → Prop} (h : Sat K H0 M0 A W (Mp.noExc r) env σ H P) : Sat K H0 M0 A W' r env σ H P := by
  cases r with
  | bad => exact h
  | exc C n d e => exact h.elim
  | ok o e => exact h
/-- one more address set apart: it is new -/
theorem EnvR.apart (E : EnvR K H0 M0 A env σ H) {p : Addr} {o : HO} (hp : H p = none) (ho : NT o := by first | exact nt_lst | exact nt_ins | exact nt_tup) : EnvR K H0 (fun a => M0 a ∨ a = p) A env σ (upd H p o) := by
  have E' := E.new (o := o) hp
  obtain ⟨n1, n2⟩ := E.fresh hp
  have g : ∀ x, MM (fun a => M0 a ∨ a = p) env σ x → MM M0 env σ x ∨ ¬ Lv H x := fun x z => by
    rcases z with (z | z) | z
    · exact .inl (.inl z)
    · exact .inr (by rw [z]; exact nn_of hp)
    · exact .inl (.inr z)
  have st : Stp (fun _ : Addr => False) H (upd H p o) := Stp.new hp
  refine ⟨E.len, E'.old, E'.alive, E'.tb, fun a h => ?_, fun a h => .inl (E.aM a h), E.a1, fun i d h => ?_, fun i ds h => ?_, fun i ds h => ?_, E.inj, E.io1, E.slf⟩
  · rcases h with h | h
    · exact E'.m0 a h
    · rw [h]; exact ⟨o, upd_same, ho⟩
  · obtain ⟨v, a1, a2⟩ := E.dat i d h
    exact ⟨v, a1, Rep.stp (Stp.new hp) (fun _ z => z) d v (Rep.grow g d v a2)⟩
  · obtain ⟨a, xs, a1, a2, a3, a4, a5⟩ := E.own i ds h
    refine ⟨a, xs, a1, by rw [upd_ne (ne_of_none a2 hp)]; exact a2, RepL.stp (Stp.new hp) (fun _ z => z) ds xs (RepL.grow g ds xs a3), fun z => ?_, a5⟩
    rcases z with z | z
    · exact a4 z
    · exact ne_of_none a2 hp z
  · obtain ⟨a, xs, a1, a2, a3, a4⟩ := E.io i ds h
    exact ⟨a, xs, a1, a2, by rw [upd_ne (ne_of_none a3 hp)]; exact a3, RepL.stp (Stp.new hp) (fun _ z => z) ds xs (RepL.grow g ds xs a4)⟩
/-- what stands apart may change -/
theorem EnvR.setM (E : EnvR K H0 M0 A env σ H) {p : Addr} {o : HO} (hpl : ∀ u, H p = some u → Pl u) (hp : M0 p) (ha : ¬ A p) (h0 : ¬ Lv H0 p) (ho : NT o := by first | exact nt_lst | exact nt_ins | exact nt_tup) : EnvR K H0 M0 A env σ (upd H p o) := by
  have st : Stp (MM M0 env σ) H (upd H p o) := Stp.set (.inl hp) hpl ho
  refine ⟨E.len, fun a u e n t => ?_, fun a h => mo_upd ho a (E.alive a h), fun P q h => tab_upd hpl P q (E.tb P q h), fun a h => mo_upd ho a (E.m0 a h), E.aM, E.a1, fun i d h => ?_, fun i ds h => ?_, fun i ds h => ?_, E.inj, E.io1, E.slf⟩
  · rw [upd_ne (fun z => h0 ⟨u, by rw [← z]; exact e, t⟩)]
    exact E.old a u e n t
  · obtain ⟨v, a1, a2⟩ := E.dat i d h
    exact ⟨v, a1, Rep.stp st (fun _ z => z) d v a2⟩
  · obtain ⟨a, xs, a1, a2, a3, a4, a5⟩ := E.own i ds h
    exact ⟨a, xs, a1, by rw [upd_ne (fun z => a4 (by rw [z]; exact hp))]; exact a2, RepL.stp st (fun _ z => z) ds xs a3, a4, a5⟩
  · obtain ⟨a, xs, a1, a2, a3, a4⟩ := E.io i ds h
    exact ⟨a, xs, a1, a2, by rw [upd_ne (fun z => ha (by rw [← z]; exact a2))]; exact a3, RepL.stp st (fun _ z => z) ds xs a4⟩
/-- less is set apart -/
theorem EnvR.less {M1 : AS} (E : EnvR K H0 M0 A env σ H) (h : ∀ a, M1 a → M0 a) (hA : ∀ a, A a → M1 a) : EnvR K H0 M1 A env σ H := by
  have g : ∀ x, MM M1 env σ x → MM M0 env σ x := fun x z => z.elim (fun q => .inl (h x q)) .inr
  refine ⟨E.len, E.old, E.alive, E.tb, fun a z => E.m0 a (h a z), hA, E.a1, fun i d e => ?_, fun i ds e => ?_, fun i ds e => ?_, E.inj, E.io1, E.slf⟩
  · obtain ⟨v, a1, a2⟩ := E.dat i d e
    exact ⟨v, a1, Rep.stp Stp.refl g d v a2⟩
  · obtain ⟨a, xs, a1, a2, a3, a4, a5⟩ := E.own i ds e
    exact ⟨a, xs, a1, a2, RepL.stp Stp.refl g ds xs a3, fun z => a4 (h a z), a5⟩
  · obtain ⟨a, xs, a1, a2, a3, a4⟩ := E.io i ds e
    exact ⟨a, xs, a1, a2, a3, RepL.stp Stp.refl g ds xs a4⟩
/-- some slots are hidden -/
theorem EnvR.wipe (E : EnvR K H0 M0 A env σ H) (is : List Nat) : EnvR K H0 M0 A (wipeE env is) (L2.wipe σ is) H ∧ ∀ a, MutAt (wipeE env is) (L2.wipe σ is) a → MutAt env σ a :=
  E.re (by rw [wipeE_len, wipe_length]; exact E.len) fun j c h => by
    obtain ⟨a, b⟩ := wipeE_get h
    exact .inl ⟨b, wipe_out a⟩
end
section
variable {X : Cx} {G : Ctx} {W : WX}
def tIf' (G : Ctx) (W : WX) (K : PySem.W.Frag) : Option IR → TT
  | none => tYes
  | some t => tIt G W K t
theorem lc_run {own : List Nat} {tg : Tgt} {T : Option (Env → R Bool)} {ee : Env → R D} {d : D} {ds : List D} {env : Env} {xs : List D} {e2 : Env} (h : lcLoop own tg T ee (d :: ds) env = .ok xs e2) :
    ∃ env1 b env2, bindT tg d (wipeE env own) = some env1 ∧ ((T = none ∧ b = true ∧ env2 = env1) ∨ ∃ t, T = some t ∧ t env1 = .ok b env2) ∧
        ((b = true ∧ ∃ x env3 ys, ee env2 = .ok x env3 ∧ lcLoop own tg T ee ds env3 = .ok ys e2 ∧ xs = x :: ys) ∨ (b = false ∧ lcLoop own tg T ee ds env2 = .ok xs e2)) := by
  unfold lcLoop at h
  cases hb : bindT tg d (wipeE env own) with
  | none => rw [hb] at h; cases h
  | some env1 =>
    rw [hb] at h
    dsimp only at h
    have main : ∀ (r : R Bool), (r.bind fun b env2 => if b = true then (ee env2).bind fun x env3 => (lcLoop own tg T ee ds env3).bind fun xs env4 => .ok (x :: xs) env4 else lcLoop own tg T ee ds env2) = .ok xs e2 →
        ∃ b env2, r = .ok b env2 ∧ ((b = true ∧ ∃ x env3 ys, ee env2 = .ok x env3 ∧ lcLoop own tg T ee ds env3 = .ok ys e2 ∧ xs = x :: ys) ∨ (b = false ∧ lcLoop own tg T ee ds env2 = .ok xs e2)) := fun r h => by
      cases r with
      | bad => cases h
      | exc C f d e => cases h
      | ok b env2 =>
        refine ⟨b, env2, rfl, ?_⟩
        cases b with
        | false => exact .inr ⟨rfl, h⟩
        | true =>
          have h : ((ee env2).bind fun x env3 => (lcLoop own tg T ee ds env3).bind fun xs env4 => R.ok (x :: xs) env4) = .ok xs e2 := h
          refine .inl ⟨rfl, ?_⟩
          cases h1 : ee env2 with
          | bad => rw [h1] at h; cases h
          | exc C f d e => rw [h1] at h; cases h
          | ok x env3 =>
            rw [h1] at h
            have h : ((lcLoop own tg T ee ds env3).bind fun xs env4 => R.ok (x :: xs) env4) = .ok xs e2 := h
            cases h2 : lcLoop own tg T ee ds env3 with
            | bad => rw [h2] at h; cases h
            | exc C f d e => rw [h2] at h; cases h
            | ok ys e4 => rw [h2] at h; cases h; exact ⟨x, env3, ys, rfl, h2, rfl⟩
    cases T with
    | none =>
      obtain ⟨b, env2, e1, e3⟩ := main (R.ok true env1) h
      cases e1
      exact ⟨env1, true, env1, rfl, .inl ⟨rfl, rfl, rfl⟩, e3⟩
    | some t =>
      obtain ⟨b, env2, e1, e3⟩ := main (t env1) h
      exact ⟨env1, b, env2, rfl, .inr ⟨t, rfl, e1⟩, e3⟩
def tsF (G : Ctx) : Option IR → Option (Env → R Bool)
  | none => none
  | some t => some fun x => truR (ev G t x)
/-- the state between two turns -/
structure LcAt (G : Ctx) (K : PySem.W.Frag) (H0 H1 : Hp) (M0 A : AS) (e1 : Env) (σ : L2.St) (own : List Nat) (tg : Tgt) (t : Option IR) (e : IR) (Dl : Addr) (ds xs : List D) (e2 : Env) (i : Nat) (H : Hp) : Prop where
  ex : ∃ (envI : Env) (acc rest : List D) (ys : List V), H Dl = some (.lst ys) ∧ ys.length ≤ i ∧ EnvR K H0 (fun a => M0 a ∨ a = Dl) A (wipeE envI own) (L2.wipe σ own) H ∧ RepL K H (MM (fun a => M0 a ∨ a = Dl) (wipeE envI own) (L2.wipe σ own)) acc ys ∧
    xs = acc ++ rest ∧ lcLoop own tg (tsF G t) (fun x => (ev G e x).take) (ds.drop i) envI = .ok rest e2 ∧ Stp (WW A e1 σ) H1 H ∧ (∀ a, MutAt (wipeE envI own) (L2.wipe σ own) a → MutAt e1 σ a) ∧
    (∀ (j : Nat) (c : Cell), j ∉ own → e1[j]? = some (some c) → ∃ c', envI[j]? = some (some c')) ∧ (∀ (j : Nat) (ds : List D), j ∉ own → envI[j]? = some (some (Cell.io ds)) → ∃ es, e1[j]? = some (some (Cell.io es))) ∧ envI.length = e1.length
theorem lc_reads {K : PySem.W.Frag} {H0 H1 : Hp} {M0 A : AS} {e1 : Env} {σ : L2.St} {own : List Nat} {tg : Tgt} {t : Option IR} {e : IR} {ds xs : List D} {e2 : Env} {Q : VK} {J : L2.It} {Dl : Addr} (E1 : EnvR K H0 M0 A e1 σ H1) (hown : ∀ j, j ∈ tgOwn tg → j ∈ own) (hide : own.all (hideB e1) = true)
    (gJ : Goes K (MM M0 e1 σ) (WW A e1 σ) H1 J ds) (hD : H1 Dl = none) (hlen : ds.length ≤ BIG) (hrun : lcLoop own tg (tsF G t) (fun x => (ev G e x).take) ds e1 = .ok xs e2)
    (fin : ∀ H', Stp (WW A e1 σ) H1 H' → Sub σ e1 (backE e1 e2 own) → EnvR K H0 M0 A (backE e1 e2 own) σ H' → Rep K H' (MM M0 (backE e1 e2 own) σ) (.lst xs) (.ref Dl) → Q (.ref Dl) H') :
    ∃ Wd : Nat → Nat → Hp → Prop, (∃ m, Wd 0 m (upd H1 Dl (.lst []))) ∧ ∀ i m H, Wd i m H →
      (J.stop i H ∧ Q (.ref Dl) H) ∨ (J.go i H ∧ ∃ Nx : Hp → Prop, (∀ H', Nx H' → ∃ m', m' < m ∧ Wd (i + 1) m' H') ∧ ∀ x H', J.yld i H x H' → gT K tg x (L2.wipe σ own) H' fun σ2 H2 => L2.wipe σ2 own = L2.wipe σ own ∧ tIf' G wNo K t σ2 H2 fun b H3 =>
        if b = true then tI G wNo K e σ2 H3 fun y H4 => ∃ acc, H4 Dl = some (.lst acc) ∧ acc.length < sizeLine ∧ Nx (upd H4 Dl (.lst (acc ++ [y]))) else Nx H3) := by
  obtain ⟨Gd, Y, wk, hGd, hY⟩ := gJ
  have hs : sizeLine = 16777216 := sizeLine_eq
  have fr := E1.fresh hD
  have nA : ¬ A Dl := fun z => (E1.m0 Dl (E1.aM Dl z)).ne hD
  refine lc_it wk (LcAt G K H0 H1 M0 A e1 σ own tg t e Dl ds xs e2) ⟨e1, [], xs, [], upd_same, Nat.zero_le _, ((E1.wipe own).1).apart hD, RepL.nil, rfl, hrun, Stp.new hD, (E1.wipe own).2, fun j c _ h => ⟨c, h⟩, fun j ds _ h => ⟨ds, h⟩, rfl⟩ (fun i H _ p => ?_) (fun i x H H' hi p y => ?_) fun H p => ?_
  · obtain ⟨_, _, _, _, _, _, _, _, _, _, s, _⟩ := p.ex
    exact hGd H s
  · obtain ⟨envI, acc, rest, ys, hH, hyl, EI, rI, ex, run, s, mI, th, iom, el⟩ := p.ex
    have hM : ∀ a, MM (fun a => M0 a ∨ a = Dl) (wipeE envI own) (L2.wipe σ own) a → (MM M0 e1 σ a ∨ ¬ Lv H1 a) ∧ Lv H a := fun a z => by
      refine ⟨?_, ?_⟩
      · rcases z with (z | z) | z
        · exact .inl (.inl z)
        · exact .inr (by rw [z]; exact nn_of hD)
        · exact .inl (.inr (mI a z))
      · rcases z with z | ⟨j, es, z1, z2⟩
        · exact EI.m0 a z
        · obtain ⟨b, zs, b1, b2, _⟩ := EI.own j es z1
          rw [z2] at b1; cases b1
          exact Lv.lst b2
    obtain ⟨st, d, hd, rd⟩ := hY i H x H' _ hi s hM y
    have hdrop : ds.drop i = d :: ds.drop (i + 1) := by
      rw [List.drop_eq_getElem_cons hi]
      congr 1
      have := List.getElem?_eq_getElem hi
      rw [hd] at this; exact (Option.some.inj this).symm
    rw [hdrop] at run
    obtain ⟨env1, b, env2, hb, ht, hr⟩ := lc_run run
    have EI' := EI.keep st
    have wl : (L2.wipe σ own).length = σ.length := wipe_length σ own
    -- the target
    refine tgt_read EI' hb rd fun σ' E' u' l' o' => ?_
    have hw : L2.wipe σ' own = L2.wipe σ own := by
      have : L2.wipe σ' own = L2.wipe (L2.wipe σ own) own := wipe_eq l'.symm fun j hj => o' j fun z => hj (hown j z)
      rw [this]
      exact wipe_eq wl.symm fun j hj => wipe_out hj
    refine ⟨hw, ?_⟩
    have nDl : ∀ {ev : Env} {τ : L2.St} {h : Hp}, EnvR K H0 (fun a => M0 a ∨ a = Dl) A ev τ h → ¬ WW A ev τ Dl := fun {ev τ h} E z => by
      rcases z with z | ⟨j, es, z1, z2⟩
      · exact nA z
      · obtain ⟨b, zs, b1, _, _, b4, _⟩ := E.own j es z1
        rw [z2] at b1; cases b1
        exact b4 (.inr rfl)
    have wI : ∀ a, WW A env1 σ' a → MM (fun a => M0 a ∨ a = Dl) (wipeE envI own) (L2.wipe σ own) a := fun a z => z.elim (fun q => .inl (.inl (E1.aM a q))) fun q => .inr (u' a q)
    have w1 : ∀ a, WW A env1 σ' a → WW A e1 σ a := fun a z => z.elim .inl fun q => .inr (mI a (u' a q))
    have cellOut : ∀ j, j ∉ own → env1[j]? = envI[j]? := fun j hj => by rw [(bind_out hb).1 j fun z => hj (hown j z), wipeE_out hj]
    have lenOut : env1.length = envI.length := by rw [(bind_out hb).2, wipeE_len]
    -- behind the test
    have cont : ∀ H3, Stp (WW A env1 σ') H' H3 → Sub σ' env1 env2 → EnvR K H0 (fun a => M0 a ∨ a = Dl) A env2 σ' H3 → if b = true then tI G wNo K e σ' H3 (fun y H4 => ∃ acc, H4 Dl = some (.lst acc) ∧ acc.length < sizeLine ∧ LcAt G K H0 H1 M0 A e1 σ own tg t e Dl ds xs e2 (i + 1) (upd H4 Dl (.lst (acc ++ [y]))))
        else LcAt G K H0 H1 M0 A e1 σ own tg t e Dl ds xs e2 (i + 1) H3 := fun H3 s2 u2 E2 => by
      have hH3 : H3 Dl = some (.lst ys) := s2.st Dl _ (st.st Dl _ hH id nt_lst) (nDl E') nt_lst
      have t3 : Stp (MM (fun a => M0 a ∨ a = Dl) (wipeE envI own) (L2.wipe σ own)) H H3 := st.no.trans (s2.weak wI)
      have t3' : Stp (WW A e1 σ) H1 H3 := (s.trans st.no).trans (s2.weak w1)
      rcases hr with ⟨rfl, x0, env3, ys', he, hrun', hxs⟩ | ⟨rfl, hrun'⟩
      · rw [if_pos rfl]
        refine take_read (f := fun d e => .ok d e) (P := fun d e _ => d = x0 ∧ e = env3) E2 (by rw [he]; exact fun _ _ _ _ => ⟨rfl, rfl⟩) fun d' v e' H4 E4 rd4 s4 u4 h4 => ?_
        obtain ⟨rfl, rfl⟩ := h4 H4 Stp.refl Sub.refl E4
        have hH4 : H4 Dl = some (.lst ys) := s4.st Dl _ hH3 (nDl E2) nt_lst
        refine ⟨ys, hH4, by unfold BIG at hlen; omega, ?_⟩
        have E5 := (E4.setM (o := .lst (ys ++ [v])) (pl_at hH4) (.inr rfl) nA fr.2).wipe own
        rw [hw] at E5
        have m5 : ∀ a, MutAt (wipeE e' own) (L2.wipe σ own) a → MutAt (wipeE envI own) (L2.wipe σ own) a := fun a z => u' a (u2.own a (u4.own a (E5.2 a z)))
        have M5 : ∀ a, MM (fun a => M0 a ∨ a = Dl) (wipeE e' own) (L2.wipe σ own) a → MM (fun a => M0 a ∨ a = Dl) (wipeE envI own) (L2.wipe σ own) a := fun a z => z.elim .inl fun q => .inr (m5 a q)
        have w2 : ∀ a, WW A env2 σ' a → WW A env1 σ' a := fun a z => z.elim .inl fun q => .inr (u2.own a q)
        have t4 := t3.trans (s4.weak fun a z => wI a (w2 a z))
        have t4' := t3'.trans (s4.weak fun a z => w1 a (w2 a z))
        refine ⟨e', acc ++ [d'], ys', ys ++ [v], upd_same, by rw [List.length_append]; simp only [List.length_singleton]; omega, E5.1, ?_, by rw [ex, hxs, List.append_assoc]; rfl, hrun', ⟨fun a o h n t => ?_, fun a h => mo_upd nt_lst a (t4'.mo a h), fun P q m h => tab_upd (pl_at hH4) P q (t4'.tb P q m h)⟩, fun a z => mI a (m5 a z), fun j c hj h => ?_, fun j es hj h => ?_, ?_⟩
        · refine RepL.append ?_ (RepL.cons ?_ RepL.nil)
          · exact RepL.stp (t4.trans (Stp.set (.inl (.inr rfl)) (pl_at hH4))) M5 acc ys rI
          · exact Rep.stp (M := MM (fun a => M0 a ∨ a = Dl) e' σ') (Stp.set (.inl (.inr rfl)) (pl_at hH4)) (fun a z => z.elim .inl fun q => .inr (E5.2 a q)) d' v rd4
        · rw [upd_ne (ne_of_none h hD)]
          exact t4'.st a o h n t
        · obtain ⟨c1, h1⟩ := th j c hj h
          obtain ⟨c2, h2⟩ := u2.there j c1 (by rw [cellOut j hj]; exact h1)
          exact u4.there j c2 h2
        · obtain ⟨es2, h2⟩ := u4.io j es h
          obtain ⟨es1, h1⟩ := u2.io j es2 h2
          rw [cellOut j hj] at h1
          exact iom j es1 hj h1
        · rw [u4.len, u2.len, lenOut, el]
      · rw [if_neg Bool.false_ne_true]
        have E5 := E2.wipe own
        rw [hw] at E5
        have m5 : ∀ a, MutAt (wipeE env2 own) (L2.wipe σ own) a → MutAt (wipeE envI own) (L2.wipe σ own) a := fun a z => u' a (u2.own a (E5.2 a z))
        have M5 : ∀ a, MM (fun a => M0 a ∨ a = Dl) (wipeE env2 own) (L2.wipe σ own) a → MM (fun a => M0 a ∨ a = Dl) (wipeE envI own) (L2.wipe σ own) a := fun a z => z.elim .inl fun q => .inr (m5 a q)
        refine ⟨env2, acc, rest, ys, hH3, by omega, E5.1, RepL.stp t3 M5 acc ys rI, ex, hrun', t3', fun a z => mI a (m5 a z), fun j c hj h => ?_, fun j es hj h => ?_, ?_⟩
        · obtain ⟨c1, h1⟩ := th j c hj h
          exact u2.there j c1 (by rw [cellOut j hj]; exact h1)
        · obtain ⟨es1, h1⟩ := u2.io j es h
          rw [cellOut j hj] at h1
          exact iom j es1 hj h1
        · rw [u2.len, lenOut, el]
    rcases ht with ⟨z1, rfl, rfl⟩ | ⟨t0, z1, z2⟩
    · have tn : t = none := by cases t with
        | none => rfl
        | some _ => cases z1
      subst tn
      exact cont H' Stp.refl Sub.refl E'
    · cases t with
      | none => cases z1
      | some t' =>
        cases z1
        exact ⟨H0, _, A, env1, E', by (have z3 : truR (ev G t' env1) = .ok b env2 := z2); rw [z3]; exact fun H3 s2 u2 E2 => cont H3 s2 u2 E2⟩
  · obtain ⟨envI, acc, rest, ys, hH, hyl, EI, rI, ex, run, s, mI, th, iom, el⟩ := p.ex
    rw [List.drop_length] at run
    unfold lcLoop at run
    cases run
    have hD' : ∀ j, j ∈ own → e1[j]? = some none ∨ ∃ d, e1[j]? = some (some (.dat d)) := fun j hj => by
      have h := (List.all_eq_true.mp hide) j hj
      unfold hideB at h
      cases q : e1[j]? with
      | none => rw [q] at h; cases h
      | some o =>
        rw [q] at h
        cases o with
        | none => exact .inl rfl
        | some c =>
          cases c with
          | dat d => exact .inr ⟨d, rfl⟩
          | _ => cases h
    have mB : ∀ a, MutAt (backE e1 e2 own) σ a → MutAt (wipeE e2 own) (L2.wipe σ own) a := fun a ⟨j, es, z1, z2⟩ => by
      rcases backE_get z1 with ⟨b1, b2⟩ | ⟨b1, b2⟩
      · exact ⟨j, es, by rw [wipeE_out b1]; exact b2, by rw [wipe_out b1]; exact z2⟩
      · rcases hD' j b1 with c1 | ⟨d, c1⟩ <;> (rw [c1] at b2; cases b2)
    obtain ⟨E2, _⟩ := EI.re (env' := backE e1 e2 own) (σ' := σ) (by rw [backE_len, el]; exact E1.len) fun j c h => by
      rcases backE_get h with ⟨b1, b2⟩ | ⟨b1, b2⟩
      · exact .inl ⟨by rw [wipeE_out b1]; exact b2, (wipe_out b1).symm⟩
      · rcases hD' j b1 with c1 | ⟨d, c1⟩
        · rw [c1] at b2; cases b2
        · rw [c1] at b2; cases b2
          obtain ⟨v, v1, v2⟩ := E1.dat j d c1
          refine .inr ⟨d, v, rfl, v1, ?_⟩
          have g : Rep K H1 (fun a => MM M0 e1 σ a ∨ a = Dl) d v := Rep.grow (fun a z => z.elim .inl fun q => .inr (by rw [q]; exact nn_of hD)) d v v2
          refine Rep.stp (s.weak fun a z => .inl (WW.sub E1.aM a z)) (fun a z => ?_) d v g
          rcases z with (z | z) | z
          · exact .inl (.inl z)
          · exact .inr z
          · exact .inl (.inr (mI a z))
    have E3 := E2.less (M1 := M0) (fun a z => .inl z) E1.aM
    refine fin H s ⟨fun a z => mI a (mB a z), fun j c h => ?_, fun j es h => ?_, by rw [backE_len, el]⟩ E3 ?_
    · by_cases hj : j ∈ own
      · exact ⟨c, backE_in hj (by rw [el]; exact (List.getElem?_eq_some_iff.mp h).1) h⟩
      · obtain ⟨c', h'⟩ := th j c hj h
        exact ⟨c', by rw [backE_out hj]; exact h'⟩
    · rcases backE_get h with ⟨b1, b2⟩ | ⟨b1, b2⟩
      · exact iom j es b1 b2
      · exact ⟨es, b2⟩
    · unfold Rep
      refine ⟨Dl, ys, rfl, .inl ⟨fun z => ?_, Rd.of hH⟩, ?_⟩
      · rcases z with z | ⟨j, es, z1, z2⟩
        · exact (E1.m0 Dl z).ne hD
        · obtain ⟨b, zs, b1, _, _, b4, _⟩ := E2.own j es z1
          rw [z2] at b1; cases b1
          exact b4 (.inr rfl)
      · rw [ex, List.append_nil]
        refine RepL.stp Stp.refl (fun a z => ?_) acc ys rI
        rcases z with z | z
        · exact .inl (.inl z)
        · exact .inr (mB a z)
end
end Mp
set_option maxHeartbeats 4000000
namespace Mp
open PySem L2
variable [TabsW] [GdW]
section
variable {X : Cx} {G : Ctx} {W : WX}
theorem ev_lc {tg : Tgt} {it : IT} {t : Option IR} {e : IR} {own : List Nat} {env : Env} : ev G (.lc tg it t e own) env = (noExc (evi G it env)).bind fun ds e1 => if ds.length ≤ BIG ∧ own.all (hideB e1) = true ∧ (tgOwn tg).all (fun i => own.contains i) = true then
        (noExc (lcLoop own tg (tsF G t) (fun x => (ev G e x).take) ds e1)).bind fun xs e2 => .ok (.val (.lst xs)) (backE e1 e2 own) else .bad := by
  cases t <;> (rw [ev.eq_def]; rfl)
theorem lc_imp {K : PySem.W.Frag} {tg : Tgt} {it : IT} {t : Option IR} {e : IR} {own : List Nat} {σ : L2.St} {H : Hp} {Q : VK} (q : tI G W K (.lc tg it t e own) σ H Q) : tLc (tIi G W K it) (gT K tg) (tIf' G wNo K t) (tI G wNo K e) own σ H Q := by
  obtain ⟨H0, M0, A, env, E, q⟩ := q
  rw [ev_lc] at q
  refine ⟨H0, M0, A, env, E, (Sat.noExc (W' := W) (Sat.bind q)).mono fun ds e1 H1 _ s1 u1 E1 h1 J gJ D hD => ?_⟩
  by_cases hcn : ds.length ≤ BIG ∧ own.all (hideB e1) = true ∧ (tgOwn tg).all (fun i => own.contains i) = true
  · rw [if_pos hcn] at h1
    cases hr : lcLoop own tg (tsF G t) (fun x => (ev G e x).take) ds e1 with
    | bad => rw [hr] at h1; exact h1.elim
    | exc C f d e2 => rw [hr] at h1; exact h1.elim
    | ok xs e2 =>
      rw [hr] at h1
      exact lc_reads E1 (fun j hj => by simpa using (List.all_eq_true.mp hcn.2.2) j hj) hcn.2.1 gJ hD hcn.1 hr fun H' st sb E' r => h1 H' st sb E' _ r
  · rw [if_neg hcn] at h1; exact h1.elim
theorem e_lc {elt tgE iter : Expr} {ifs : List Expr} {scope : Scope} {own : List (Str × Nat)} {pos : Pos} {tg : Tgt} {it : IT} {t : Option IR} {e : IR} (hc : X.calm = true) (hN : X.N.Nodup) (hi : PI X tgE iter (tIi G W X.K it)) (ok : BlkOk X.N X.env.scope scope own)
    (hg : ∀ (s : Shared) (H : Hp) (C : Addr) (cl : List (Str × Addr)) (fp : List Addr), PG (X.blk s H scope (compEnvC scope cl C X.env) fp) tgE (gT X.K tg)) (ht : ∀ (s : Shared) (H : Hp) (C : Addr) (cl : List (Str × Addr)) (fp : List Addr), PTs (X.blk s H scope (compEnvC scope cl C X.env) fp) ifs (tIf' G wNo X.K t))
    (he : ∀ (s : Shared) (H : Hp) (C : Addr) (cl : List (Str × Addr)) (fp : List Addr), PE (X.blk s H scope (compEnvC scope cl C X.env) fp) elt (tI G wNo X.K e)) (hs : ∀ x, foldedSetIterable iter X.env x = pure x) :
    PE X (.ListComp elt [⟨tgE, iter, ifs, 0⟩] scope pos) (tI G W X.K (.lc tg it t e (own.map (·.2)))) := PE.by_ (pe_lc hc hN hi ok hg ht he hs) fun σ H Q q => lc_imp q
/-- an own class whose values' class is known -/
structure IsC (K : PySem.W.Frag) (C : Str) : Prop where
  cl : Cls K (clsAt K C)
  ha : PySem.W.findIn K (.ref (clsAt K C)) "__class__" = some (some (.builtin "object.__class__"))
  hn : PySem.W.specialIn K (.builtin "object.__class__") "__get__" = some (some (.builtin "getset_descriptor.__get__"))
  ht : PySem.W.takesIn K (.builtin "object.__class__") = some true
  hm : PySem.W.mroIn K (clsAt K C) (.type "object") = some true
structure IsK (K : PySem.W.Frag) (cs : List Str) (T : Ty) (u : Value) : Prop where
  n : PySem.W.kitOne K (.type "NoneType") u = some (tyD T .non)
  b : PySem.W.kitOne K (.type "bool") u = some (tyD T (.bl true))
  i : PySem.W.kitOne K (.type "int") u = some (tyD T (.int 0))
  s : PySem.W.kitOne K (.type "str") u = some (tyD T (.str Str.empty))
  l : PySem.W.kitOne K (.type "list") u = some (tyD T (.lst []))
  t : PySem.W.kitOne K (.type "tuple") u = some (tyD T (.tup []))
  c : ∀ C, C ∈ cs → PySem.W.kitOne K (.ref (clsAt K C)) u = some (tyD T (.obj C [] []))
theorem is_read {K : PySem.W.Frag} {cs : List Str} (hc : ∀ C, C ∈ cs → IsC K C) {H : Hp} {M : AS} {d : D} {v : V} (r : RepT K H M d v) (k : knownB cs d = true) : ∃ t, TyX K H v t ∧ ∀ T u, IsK K cs T u → PySem.W.kitOne K t u = some (tyD T d) := by
  cases d with
  | non => rw [r.non]; exact ⟨_, .base .non, fun T u h => h.n⟩
  | bl b => rw [r.bl]; exact ⟨_, .base (.bl b), fun T u h => by rw [h.b]; cases T <;> rfl⟩
  | int i => rw [r.int]; exact ⟨_, .base (.int i), fun T u h => by rw [h.i]; cases T <;> rfl⟩
  | str i => rw [r.str]; exact ⟨_, .base (.str i), fun T u h => by rw [h.s]; cases T <;> rfl⟩
  | lst ds =>
    obtain ⟨a, xs, rfl, h, _⟩ := r
    refine ⟨.type "list", ?_, fun T u h => by rw [h.l]; cases T <;> rfl⟩
    rcases h with (h | ⟨o, h⟩) | ⟨o, its, n, h, hc, _⟩
    · exact .base (.lst h)
    · exact .base (.frz h)
    · exact .kList h hc
  | tup ds =>
    obtain ⟨a, xs, rfl, h, _⟩ := r
    refine ⟨.type "tuple", ?_, fun T u h => by rw [h.t]; cases T <;> rfl⟩
    rcases h with h | ⟨o, h⟩
    · exact .base (.tup h)
    · exact .fTuple h
  | obj C ns ds =>
    have r' : Rep K H M (.obj C ns ds) v := r
    unfold Rep at r'
    obtain ⟨a, dx, xs, rfl, _, h, _⟩ := r'
    have hC : C ∈ cs := by
      unfold knownB at k
      simpa using k
    have I := hc C hC
    exact ⟨_, .base (.ins h I.cl I.ha I.hn I.ht I.hm), fun T u h => by rw [h.c C hC]; cases T <;> rfl⟩
  | raw w => cases k
theorem isin_sat {K : PySem.W.Frag} {a : IR} {ts : List Ty} (hc : ∀ C, C ∈ G.cls → IsC K C) {σ : L2.St} {H : Hp} {Q : VK} (q : tI G W K (.isin a ts) σ H Q) :
    tI G W K a σ H fun x H1 => ∃ t, TyX K H1 x t ∧ ∃ d, (∀ T u, IsK K G.cls T u → PySem.W.kitOne K t u = some (tyD T d)) ∧ (∀ H2, Stp NoA H1 H2 → Q (.bl (ts.any fun T => tyD T d)) H2) := by
  obtain ⟨H0, M0, A, env, E, q⟩ := q
  rw [ev] at q
  refine ⟨H0, M0, A, env, E, (Sat.bind q).mono fun o e1 H1 _ s1 u1 E1 h1 x hx => ?_⟩
  cases e : rdO e1 o with
  | none => rw [e] at h1; exact h1.elim
  | some d =>
    rw [e] at h1
    dsimp only at h1
    by_cases hk : knownB G.cls d = true
    · rw [if_pos hk] at h1
      obtain ⟨t, h, h'⟩ := is_read hc (hx.rdT E1 e) hk
      exact ⟨t, h, d, h', fun H2 s => h1 H2 s.no Sub.refl (E1.keep s) _ (show Rep K H2 (MM M0 e1 σ) (.bl _) (.bl _) from rep_bl _)⟩
    · rw [if_neg hk] at h1; exact h1.elim
theorem e_isin1 {a c : Expr} {a' : IR} {T : Ty} {cv : V} {u : Value} {p pos : Pos} (hc : ∀ C, C ∈ G.cls → IsC X.K C) (hK : IsK X.K G.cls T u) (hv : ClsV cv u) (ha : PE X a (tI G W X.K a')) (hcl : PE X c (tC cv)) (hg : Gl X "isinstance") (hm : X.mg "isinstance" = none) (s1 : starB a = false) (s2 : starB c = false) :
    PE X (.Call (.Name "isinstance" p) [a, c] [] pos) (tI G W X.K (.isin a' [T])) :=
  PE.by_ (pe_callB call_isi hg hm (by decide +kernel) (pa_cons ha (pa_cons hcl pa_nil (star_cons s2)) (star_cons s1)) (by decide) (by decide) (star_cons s1) (star_none (by rw [List.any_cons, s2]; rfl))) fun σ H Q q => by
    obtain ⟨H0, M0, A, env, E, q⟩ := isin_sat hc q
    refine ⟨H0, M0, A, env, E, q.mono fun o e1 H1 _ s1 u1 E1 h1 x hx => ?_⟩
    obtain ⟨t, h2, d, h3, h4⟩ := h1 x hx
    refine ⟨x, cv, t, u, tyD T d, rfl, hv, h2, h3 T u hK, ?_⟩
    have := h4 H1 Stp.refl
    simpa using this
/-- append -/
theorem own_at {env : Env} {i : Nat} (h : ownB env i = true) : ∃ ds, env[i]? = some (some (.own ds)) := by
  unfold ownB at h
  cases e : env[i]? with
  | none => rw [e] at h; cases h
  | some o =>
    rw [e] at h
    cases o with
    | none => cases h
    | some c =>
      cases c with
      | own ds => exact ⟨ds, rfl⟩
      | _ => cases h
theorem e_app {x : Str} {np apos pos : Pos} {e : Expr} {i : Nat} {e' : IR} (hN : X.N[i]? = some x) (hv : Vis X.env.scope x) (hd : (x == ("__debug__" : Str)) = false) (hcd : (x == ("__classdict__" : Str)) = false) (ha : PE X e (tI G W X.K e')) (h1 : starB e = false)
    (hfew : ((backTo pos (starEach [e] X.env)).all (fun x => !x.1) && (backToKw pos (keywordEach [] X.env)).all (fun x => x.1.isSome)
      && decide (([e] : List Expr).length + ([] : List Keyword).length + (if ([] : List Keyword).isEmpty then 0 else 1) < 30)) = true)
    (hline : (apos.endLine == pos.line) = true) :
    PE X (.Call (.Attribute (.Name x np) "append" apos) [e] [] pos) (tI G W X.K (.app i e')) :=
  PE.by_ (pe_bm PySem.F.plainAttrs_list PySem.F.slot_list_append PySem.F.type_list_append mt_append (pe_var hN hv hd hcd) (pa_cons ha pa_nil (star_cons h1)) rfl hfew hline (star_cons h1) (star_none rfl)) fun σ H Q q => by
    obtain ⟨H0, M0, A, env, E, q⟩ := q
    rw [ev] at q
    by_cases ho : ownB env i = true
    · rw [if_pos ho] at q
      obtain ⟨ds, hi⟩ := own_at ho
      obtain ⟨a, xs, e1, e2, _⟩ := E.own i ds hi
      refine ⟨_, e1, .inl ⟨rfl, _, SqL.of e2⟩, H0, M0, A, env, E, ?_⟩
      unfold R.take at q
      rw [R.bind_assoc] at q
      refine (Sat.bind q).mono fun o e1' H1 _ s1 u1 E1 h1 v hx => ?_
      cases e : takeO e1' o with
      | none => rw [e] at h1; exact h1.elim
      | some p =>
        obtain ⟨d, e2'⟩ := p
        rw [e] at h1
        obtain ⟨E2, rd, u2⟩ := E1.take hx e
        have h1 : Sat X.K H0 M0 A W (match e2'[i]? with
            | some (some (.own ds)) => if ds.length < BIG then R.ok (.val .non) (e2'.set i (some (.own (ds ++ [d])))) else .bad
            | _ => .bad) e1' σ H1 fun o e1 H1 => ∀ v, OpdR X.K M0 e1 σ H1 o v → Q v H1 := h1
        cases h2 : e2'[i]? with
        | none => rw [h2] at h1; exact h1.elim
        | some c =>
          rw [h2] at h1
          cases c with
          | none => exact h1.elim
          | some c =>
            cases c with
            | own ds' =>
              dsimp only at h1
              by_cases hl : ds'.length < BIG
              · rw [if_pos hl] at h1
                obtain ⟨a', xs', f1, f2, f3, f4⟩ := E2.own i ds' h2
                rw [e1] at f1; cases f1
                have hs : sizeLine = 16777216 := sizeLine_eq
                refine ⟨a, xs', v, rfl, rfl, f2, by rw [← f3.length]; unfold BIG at hl; omega, ?_⟩
                have st : Stp (fun x => x = a) H1 (upd H1 a (.lst (xs' ++ [v]))) := Stp.set rfl (pl_at f2)
                have stM : Stp (MM M0 e2' σ) H1 (upd H1 a (.lst (xs' ++ [v]))) := st.weak fun x z => z ▸ .inr ⟨i, ds', h2, e1⟩
                obtain ⟨E3, u3, _⟩ := E2.setOwn h2 e1 st upd_same (out := ds' ++ [d]) ((RepL.stp stM (fun _ z => z) ds' xs' f3).append (RepL.cons (Rep.stp stM (fun _ z => z) d v rd) RepL.nil))
                refine h1 _ (st.weak fun x z => z ▸ .inr (u2.own a ⟨i, ds', h2, e1⟩)) (u2.trans u3) E3 .non ?_
                unfold OpdR
                dsimp only
                unfold Rep
                rfl
              · rw [if_neg hl] at h1; exact h1.elim
            | _ => exact h1.elim
    · rw [if_neg ho] at q; exact q.elim
end
end Mp
set_option maxHeartbeats 4000000
namespace Mp
open PySem L2
variable [TabsW] [GdW]
inductive SR where
  | nx (env : Env) | rt (d : D) (env : Env) | rl (ds : List D) (env : Env) | bk (env : Env) | ct (env : Env) | exc (C : Str) (f : Str) (d : D) (env : Env) | bad
def R.toS {α : Type} : R α → (α → Env → SR) → SR
  | .ok a e, k => k a e
  | .exc C f d e, _ => .exc C f d e
  | .bad, _ => .bad
def SR.seq : SR → (Env → SR) → SR
  | .nx e, k => k e
  | r, _ => r
/-- a list just made -/
inductive LM where
  | lst (es : List IR) | copy (e : IR) | call (j : Nat) (es : List IR)
inductive ST where
  | expr (e : IR) | asg (tg : Tgt) (e : IR) | new (i : Nat) (m : LM) | six (i : Nat) (ie e : IR)
  | if_ (t : IR) (a b : List ST) | for_ (tg : Tgt) (it : IT) (b : List ST) | whl (t : IR) (b : List ST)
  | ret (e : IR) | retn | retl (m : LM) | pass | brk | cont | par (is : List Nat) (es : List IR) | parn (i : Nat) (e : IR) (j : Nat) (m : LM) | parn3 (i : Nat) (a : IR) (j : Nat) (b : IR) (k : Nat) (m : LM) | nev | raise (C f : Str) (e : IR)
/-- the turns of a for -/
def forL (tg : Tgt) (body : Env → SR) : List D → Env → SR
  | [], env => .nx env
  | d :: ds, env => match bindT tg d env with
    | none => .bad
    | some e1 => match body e1 with
      | .nx e2 => forL tg body ds e2
      | .ct e2 => forL tg body ds e2
      | .bk e2 => .nx e2
      | .rt d e2 => .rt d e2
      | .rl d e2 => .rl d e2
      | .exc C f d e2 => .exc C f d e2
      | .bad => .bad
/-- the turns of a while, at most so many -/
def whlL (t : Env → R Bool) (body : Env → SR) : Nat → Env → SR
  | 0, _ => .bad
  | n + 1, env => (t env).toS fun b e1 => if b then (match body e1 with
      | .nx e2 => whlL t body n e2
      | .ct e2 => whlL t body n e2
      | .bk e2 => .nx e2
      | .rt d e2 => .rt d e2
      | .rl d e2 => .rl d e2
      | .exc C f d e2 => .exc C f d e2
      | .bad => .bad) else .nx e1
def evL (G : Ctx) : LM → Env → R (List D)
  | .lst es, env => evs G es env
  | .copy e, env => (ev G e env).rd.bind fun d e1 => match d with
    | .lst ds => .ok ds e1
    | .tup ds => .ok ds e1
    | _ => .bad
  | .call j es, env => match G.frs[j]? with
    | none => .bad
    | some f => if es.length = f.n then (evs G es env).bind fun vs e1 => (match f.sem vs with
      | .ok (.lst ds) _ => .ok ds e1
      | .exc C g d _ => .exc C g d e1
      | _ => .bad) else .bad
/-- a list that may be changed here -/
def placeB (env : Env) (i : Nat) : Bool := match env[i]? with
  | some (some (.own _)) => true
  | some (some (.io _)) => true
  | _ => false
mutual
def evS (G : Ctx) : ST → Env → SR
  | .expr e, env => (ev G e env).toS fun _ e1 => .nx e1
  | .asg tg e, env => (ev G e env).take.toS fun d e1 => match bindT tg d e1 with
    | some e2 => .nx e2
    | none => .bad
  | .new i m, env => (evL G m env).toS fun ds e1 => if ds.length ≤ BIG ∧ freeB e1 i = true then .nx (e1.set i (some (.own ds))) else .bad
  | .six i ie e, env => (ev G e env).take.toS fun d e1 => if placeB e1 i then (ev G ie e1).rd.toS fun k e2 => (match k, e2[i]? with
      | .int k, some (some (.own ds)) => if 0 ≤ k ∧ k < ds.length then .nx (e2.set i (some (.own (ds.set k.toNat d)))) else .bad
      | .int k, some (some (.io ds)) => if 0 ≤ k ∧ k < ds.length then .nx (e2.set i (some (.io (ds.set k.toNat d)))) else .bad
      | _, _ => .bad) else .bad
  | .retl m, env => (evL G m env).toS fun ds e1 => if ds.length ≤ BIG then .rl ds e1 else .bad
  | .par is es, env => (evs G es env).toS fun ds e1 => match bindT (.tup is) (.tup ds) e1 with
    | some e2 => .nx e2
    | none => .bad
  | .parn i e j m, env => (ev G e env).take.toS fun d e1 => (evL G m e1).toS fun ds e2 => if ds.length ≤ BIG ∧ freeB e2 i = true ∧ freeB e2 j = true ∧ i ≠ j then .nx ((e2.set i (some (.dat d))).set j (some (.own ds))) else .bad
  | .parn3 i a j b k m, env => (ev G a env).take.toS fun d e1 => (ev G b e1).take.toS fun d2 e2 => (evL G m e2).toS fun ds e3 => if ds.length ≤ BIG ∧ freeB e3 i = true ∧ freeB e3 j = true ∧ freeB e3 k = true ∧ i ≠ j ∧ i ≠ k ∧ j ≠ k then .nx (((e3.set i (some (.dat d))).set j (some (.dat d2))).set k (some (.own ds))) else .bad
  | .nev, _ => .bad
  | .raise C f e, env => (evs G [e] env).toS fun ds e1 => match ds with
    | [d] => .exc C f d e1
    | _ => .bad
  | .if_ t a b, env => (truR (ev G t env)).toS fun c e1 => if c then evSs G a e1 else evSs G b e1
  | .for_ tg it b, env => (evi G it env).toS fun ds e1 => forL tg (fun e => evSs G b e) ds e1
  | .whl t b, env => whlL (fun e => truR (ev G t e)) (fun e => evSs G b e) BIG env
  | .ret e, env => (ev G e env).take.toS fun d e1 => .rt d e1
  | .retn, env => .rt .non env
  | .pass, env => .nx env
  | .brk, env => .bk env
  | .cont, env => .ct env
def evSs (G : Ctx) : List ST → Env → SR
  | [], env => .nx env
  | s :: ss, env => (evS G s env).seq fun e => evSs G ss e
end
/-- what is owned later was owned or is new -/
structure SubS (σ : L2.St) (env : Env) (H : Hp) (σ' : L2.St) (env' : Env) : Prop where
  own : ∀ a, MutAt env' σ' a → MutAt env σ a ∨ ¬ Lv H a
  len : σ'.length = σ.length
theorem SubS.refl {σ : L2.St} {env : Env} {H : Hp} : SubS σ env H σ env := ⟨fun _ z => .inl z, rfl⟩
theorem Sub.toS {σ : L2.St} {env e1 : Env} {H : Hp} (u : Sub σ env e1) : SubS σ env H σ e1 := ⟨fun a z => .inl (u.own a z), rfl⟩
section
variable {K : PySem.W.Frag} {H0 H H1 H2 : Hp} {M0 A : AS} {env e1 e2 : Env} {σ σ1 σ2 : L2.St} {W : WX}
theorem Stp.sTrans (s : Stp (WW A env σ) H H1) (u : SubS σ env H σ1 e1) (s2 : Stp (WW A e1 σ1) H1 H2) : Stp (WW A env σ) H H2 := by
  refine ⟨fun a o e n t => s2.st a o (s.st a o e n t) (fun z => ?_) t, fun a h => s2.mo a (s.mo a h), fun P q m h => s2.tb P q m (s.tb P q m h)⟩
  rcases z with z | z
  · exact n (.inl z)
  · rcases u.own a z with q | q
    · exact n (.inr q)
    · exact q ⟨o, e, t⟩
theorem SubS.trans (s : Stp (WW A env σ) H H1) (u : SubS σ env H σ1 e1) (u2 : SubS σ1 e1 H1 σ2 e2) : SubS σ env H σ2 e2 := by
  refine ⟨fun a z => ?_, u2.len.trans u.len⟩
  rcases u2.own a z with q | q
  · exact u.own a q
  · exact .inr fun w => q (s.mo a w)
/-- what follows a statement -/
def SatS (K : PySem.W.Frag) (H0 : Hp) (M0 A : AS) (W : WX) (r : SR) (env : Env) (σ : L2.St) (H : Hp) (D : Ends) : Prop := match r with
  | .nx e' => ∀ σ' H', Stp (WW A env σ) H H' → SubS σ env H σ' e' → EnvR K H0 M0 A e' σ' H' → D.nx σ' H'
  | .bk e' => ∀ σ' H', Stp (WW A env σ) H H' → SubS σ env H σ' e' → EnvR K H0 M0 A e' σ' H' → D.bk σ' H'
  | .ct e' => ∀ σ' H', Stp (WW A env σ) H H' → SubS σ env H σ' e' → EnvR K H0 M0 A e' σ' H' → D.ct σ' H'
  | .rt d e' => ∀ σ' v H', Stp (WW A env σ) H H' → SubS σ env H σ' e' → EnvR K H0 M0 A e' σ' H' → Rep K H' (MM M0 e' σ') d v → D.rt v H'
  | .rl ds e' => ∀ σ' p vs H', Stp (WW A env σ) H H' → SubS σ env H σ' e' → EnvR K H0 M0 A e' σ' H' → ¬ Lv H0 p → ¬ M0 p → H' p = some (.lst vs) → RepL K H' (fun a => M0 a ∨ a = p) ds vs → D.rt (.ref p) H'
  | .exc C f d e' => ∀ σ' dd v H', Stp (WW A env σ) H H' → SubS σ env H σ' e' → EnvR K H0 M0 A e' σ' H' → H' dd = some (.xd [(f, v)]) → Rep K H' (MM M0 e' σ') d v → W (.ref (clsAt K C)) (some dd) σ' H'
  | .bad => False
theorem SatS.go {r : SR} {D : Ends} (h : SatS K H0 M0 A W r env σ H D) (s : Stp (WW A env σ) H H1) (u : SubS σ env H σ1 e1) : SatS K H0 M0 A W r e1 σ1 H1 D := by
  cases r with
  | bad => exact h
  | nx e' => exact fun σ' H' s' u' E' => h σ' H' (s.sTrans u s') (u.trans s u') E'
  | bk e' => exact fun σ' H' s' u' E' => h σ' H' (s.sTrans u s') (u.trans s u') E'
  | ct e' => exact fun σ' H' s' u' E' => h σ' H' (s.sTrans u s') (u.trans s u') E'
  | rt d e' => exact fun σ' v H' s' u' E' => h σ' v H' (s.sTrans u s') (u.trans s u') E'
  | rl d e' => exact fun σ' p vs H' s' u' E' => h σ' p vs H' (s.sTrans u s') (u.trans s u') E'
  | exc C f d e' => exact fun σ' dd v H' s' u' E' => h σ' dd v H' (s.sTrans u s') (u.trans s u') E'
theorem SatS.toS {α : Type} {r : R α} {f : α → Env → SR} {D : Ends} (h : SatS K H0 M0 A W (r.toS f) env σ H D) : Sat K H0 M0 A W r env σ H fun a e1 H1 => SatS K H0 M0 A W (f a e1) e1 σ H1 D := by
  cases r with
  | bad => exact h
  | exc C f d e' => exact fun dd v H' s u E' => h σ dd v H' s u.toS E'
  | ok a e' => exact fun H' s u E' => SatS.go (show SatS K H0 M0 A W (f a e') env σ H D from h) s u.toS
end
section
variable {X : Cx} {G : Ctx} {W : WX}
def tS (G : Ctx) (W : WX) (K : PySem.W.Frag) (s : ST) : TS := fun D σ H => ∃ H0 M0 A env, EnvR K H0 M0 A env σ H ∧ SatS K H0 M0 A W (evS G s env) env σ H D
def tSs (G : Ctx) (W : WX) (K : PySem.W.Frag) (s : List ST) : TS := fun D σ H => ∃ H0 M0 A env, EnvR K H0 M0 A env σ H ∧ SatS K H0 M0 A W (evSs G s env) env σ H D
theorem PS.by_ {s : Stmt} {t t' : TS} (h : PS X s t) (i : ∀ D σ H, t' D σ H → t D σ H) : PS X s t' := ⟨fun pins s σ H D I q => h.run pins s σ H D I (i D σ H q)⟩
theorem PSs.by_ {s : List Stmt} {t t' : TS} (h : PSs X s t) (i : ∀ D σ H, t' D σ H → t D σ H) : PSs X s t' := ⟨fun pins s σ H D I q => h.run pins s σ H D I (i D σ H q)⟩
theorem take_readS {K : PySem.W.Frag} {H0 H : Hp} {M0 A : AS} {env : Env} {σ : L2.St} {i : IR} {f : D → Env → SR} {D : Ends} (E : EnvR K H0 M0 A env σ H) (q : SatS K H0 M0 A W ((ev G i env).take.toS f) env σ H D)
    {Q : VK} (k : ∀ d v e1 H1, EnvR K H0 M0 A e1 σ H1 → Rep K H1 (MM M0 e1 σ) d v → Stp (WW A env σ) H H1 → Sub σ env e1 → SatS K H0 M0 A W (f d e1) e1 σ H1 D → Q v H1) : tI G W K i σ H Q := by
  have q := SatS.toS q
  unfold R.take at q
  refine ⟨H0, M0, A, env, E, (Sat.bind q).mono fun o e1 H1 _ s1 u1 E1 h1 x hx => ?_⟩
  cases e : takeO e1 o with
  | none => rw [e] at h1; exact h1.elim
  | some p =>
    obtain ⟨d, e2⟩ := p
    rw [e] at h1
    obtain ⟨E2, rd, u2⟩ := E1.take hx e
    exact k d x e2 H1 E2 rd s1 (u1.trans u2) (h1 H1 Stp.refl u2 E2)
theorem rd_readS {K : PySem.W.Frag} {H0 H : Hp} {M0 A : AS} {env : Env} {σ : L2.St} {i : IR} {f : D → Env → SR} {D : Ends} (E : EnvR K H0 M0 A env σ H) (q : SatS K H0 M0 A W ((ev G i env).rd.toS f) env σ H D)
    {Q : VK} (k : ∀ d v e1 H1, EnvR K H0 M0 A e1 σ H1 → RepT K H1 (MM M0 e1 σ) d v → Stp (WW A env σ) H H1 → Sub σ env e1 → SatS K H0 M0 A W (f d e1) e1 σ H1 D → Q v H1) : tI G W K i σ H Q := by
  have q := SatS.toS q
  unfold R.rd at q
  refine ⟨H0, M0, A, env, E, (Sat.bind q).mono fun o e1 H1 _ s1 u1 E1 h1 x hx => ?_⟩
  cases e : rdO e1 o with
  | none => rw [e] at h1; exact h1.elim
  | some d =>
    rw [e] at h1
    exact k d x e1 H1 E1 (hx.rdT E1 e) s1 u1 (h1 H1 Stp.refl Sub.refl E1)
theorem st_expr {e : Expr} {i : IR} {pos : Pos} (he : PE X e (tI G W X.K i)) (hs : swapsWith e none pos.line X.env = pure false) : PS X (.Expr e pos) (tS G W X.K (.expr i)) := PS.by_ (ps_expr he hs) fun D σ H q => by
  obtain ⟨H0, M0, A, env, E, q⟩ := q
  rw [evS] at q
  exact ⟨H0, M0, A, env, E, (SatS.toS q).mono fun o e1 H1 _ s1 u1 E1 h1 v hv => h1 σ H1 Stp.refl SubS.refl E1⟩
theorem st_asg {tgE e : Expr} {tg : Tgt} {i : IR} {pos : Pos} (h : PS X (.Assign [tgE] e pos) (tAsg (tI G W X.K i) (gT X.K tg))) : PS X (.Assign [tgE] e pos) (tS G W X.K (.asg tg i)) := PS.by_ h fun D σ H q => by
  obtain ⟨H0, M0, A, env, E, q⟩ := q
  rw [evS] at q
  refine take_readS E q fun d v e1 H1 E1 rd s1 u1 h1 => ?_
  cases hb : bindT tg d e1 with
  | none => rw [hb] at h1; exact h1.elim
  | some e2 =>
    rw [hb] at h1
    exact tgt_read E1 hb rd fun σ' E' u' l' o' => h1 σ' H1 Stp.refl ⟨fun a z => .inl (u' a z), l'⟩ E'
theorem st_ret {e : Expr} {i : IR} {pos : Pos} (he : PE X e (tI G W X.K i)) : PS X (.Return (some e) pos) (tS G W X.K (.ret i)) := PS.by_ (ps_ret he) fun D σ H q => by
  obtain ⟨H0, M0, A, env, E, q⟩ := q
  rw [evS] at q
  exact take_readS E q fun d v e1 H1 E1 rd s1 u1 h1 => h1 σ v H1 Stp.refl SubS.refl E1 rd
/-- raise X(e): the error's own dict d is new and holds the field f -/
def tRaiseE (C : Addr) (f : Str) (W : WX) (ta : TA) : TS := fun _ σ H => ta σ H fun vs H1 => ∃ v, vs = [v] ∧ ∀ d, H1 d = none → W (.ref C) (some d) σ (upd H1 d (.xd [(f, v)]))
theorem st_raise {s : Stmt} {C f : Str} {i : IR} (h : PS X s (tRaiseE (clsAt X.K C) f W (tIs G W X.K [i]))) : PS X s (tS G W X.K (.raise C f i)) := PS.by_ h fun D σ H q => by
  obtain ⟨H0, M0, A, env, E, q⟩ := q
  rw [evS] at q
  refine ⟨H0, M0, A, env, E, (SatS.toS q).mono fun ds e1 H1 _ s1 u1 E1 h1 vs hv => ?_⟩
  cases ds with
  | nil => exact h1.elim
  | cons d ds =>
    cases ds with
    | cons _ _ => exact h1.elim
    | nil =>
      unfold RepL at hv
      obtain ⟨v, ys, rfl, rv, hn⟩ := hv
      unfold RepL at hn
      subst hn
      exact ⟨v, rfl, fun p hp => h1 σ p v _ (Stp.new hp) SubS.refl (E1.new hp) upd_same (Rep.stp (Stp.new hp) (fun _ z => z) d v rv)⟩
theorem ss_nil : PSs X [] (tSs G W X.K []) := PSs.by_ pss_nil fun D σ H q => by
  obtain ⟨H0, M0, A, env, E, q⟩ := q
  rw [evSs] at q
  exact q σ H Stp.refl SubS.refl E
theorem seq_read {K : PySem.W.Frag} {H0 H : Hp} {M0 A : AS} {env : Env} {σ : L2.St} {r : SR} {ss : List ST} {D : Ends} (q : SatS K H0 M0 A W (r.seq fun e => evSs G ss e) env σ H D) : SatS K H0 M0 A W r env σ H { D with nx := tSs G W K ss D } := by
  cases r with
  | nx e' => exact fun σ' H' s u E' => ⟨H0, M0, A, e', E', SatS.go (show SatS K H0 M0 A W (evSs G ss e') env σ H D from q) s u⟩
  | _ => exact q
theorem ss_cons {s : Stmt} {ss : List Stmt} {t : ST} {ts : List ST} (h1 : PS X s (tS G W X.K t)) (h2 : PSs X ss (tSs G W X.K ts)) : PSs X (s :: ss) (tSs G W X.K (t :: ts)) := PSs.by_ (pss_cons h1 h2) fun D σ H q => by
  obtain ⟨H0, M0, A, env, E, q⟩ := q
  rw [evSs] at q
  exact ⟨H0, M0, A, env, E, seq_read q⟩
theorem st_if {c : Expr} {a b : List Stmt} {t : IR} {as bs : List ST} {pos : Pos} (hc : PT X c (tIt G W X.K t)) (ha : PSs X a (tSs G W X.K as)) (hb : PSs X b (tSs G W X.K bs)) : PS X (.If c a b pos) (tS G W X.K (.if_ t as bs)) := PS.by_ (ps_if hc ha hb) fun D σ H q => by
  obtain ⟨H0, M0, A, env, E, q⟩ := q
  rw [evS] at q
  refine ⟨H0, M0, A, env, E, (SatS.toS q).mono fun b e1 H1 _ s1 u1 E1 h1 => ?_⟩
  cases b with
  | true => exact ⟨H0, M0, A, e1, E1, h1⟩
  | false => exact ⟨H0, M0, A, e1, E1, h1⟩
end
end Mp
set_option maxHeartbeats 4000000
namespace Mp
open PySem L2
variable [TabsW] [GdW]
section
variable {X : Cx} {G : Ctx} {W : WX}
theorem for_reads {K : PySem.W.Frag} {H0 H1 : Hp} {M0 A : AS} {e1 : Env} {σ : L2.St} {tg : Tgt} {b : List ST} {ds : List D} {J : L2.It} {D : Ends} (E1 : EnvR K H0 M0 A e1 σ H1) (gJ : Goes K (MM M0 e1 σ) (WW A e1 σ) H1 J ds)
    (q : SatS K H0 M0 A W (forL tg (fun e => evSs G b e) ds e1) e1 σ H1 D) :
    ∃ Wd : Nat → Nat → L2.St → Hp → Prop, (∃ m, Wd 0 m σ H1) ∧ ∀ i m σ H, Wd i m σ H →
      (J.stop i H ∧ D.nx σ H) ∨ (J.go i H ∧ ∃ N : L2.St → Hp → Prop, (∀ σ' H', N σ' H' → ∃ m', m' < m ∧ Wd (i + 1) m' σ' H') ∧ ∀ x H', J.yld i H x H' → gT K tg x σ H' fun σ2 H2 => tSs G W K b { D with nx := N, ct := N, bk := D.nx } σ2 H2) := by
  obtain ⟨Gd, Y, wk, hGd, hY⟩ := gJ
  refine L2.for_it wk (fun i σi Hi => ∃ envi, EnvR K H0 M0 A envi σi Hi ∧ Stp (WW A e1 σ) H1 Hi ∧ SubS σ e1 H1 σi envi ∧ SatS K H0 M0 A W (forL tg (fun e => evSs G b e) (ds.drop i) envi) envi σi Hi D) ⟨e1, E1, Stp.refl, SubS.refl, q⟩
    (fun i σ H _ ⟨_, _, s, _⟩ => hGd H s) (fun i x σi H H' hi ⟨envi, Ei, si, ui, qi⟩ y => ?_) fun σi H ⟨envi, Ei, si, ui, qi⟩ => ?_
  · have hM : ∀ a, MM M0 envi σi a → (MM M0 e1 σ a ∨ ¬ Lv H1 a) ∧ Lv H a := fun a z => by
      rcases z with z | z
      · exact ⟨.inl (.inl z), Ei.m0 a z⟩
      · refine ⟨(ui.own a z).elim (fun q => .inl (.inr q)) .inr, ?_⟩
        obtain ⟨j, es, z1, z2⟩ := z
        obtain ⟨b, zs, b1, b2, _⟩ := Ei.own j es z1
        rw [z2] at b1; cases b1
        exact Lv.lst b2
    obtain ⟨st, d, hd, rd⟩ := hY i H x H' _ hi si hM y
    have hdrop : ds.drop i = d :: ds.drop (i + 1) := by
      rw [List.drop_eq_getElem_cons hi]
      congr 1
      have := List.getElem?_eq_getElem hi
      rw [hd] at this; exact (Option.some.inj this).symm
    rw [hdrop, forL] at qi
    cases hb : bindT tg d envi with
    | none => rw [hb] at qi; exact qi.elim
    | some env2 =>
      rw [hb] at qi
      dsimp only at qi
      refine tgt_read (Ei.keep st) hb rd fun σ' E' u' l' o' => ⟨H0, M0, A, env2, E', ?_⟩
      have w : ∀ a, WW A env2 σ' a → WW A envi σi a := fun a z => z.elim .inl fun q => .inr (u' a q)
      have nxt : ∀ {e2 : Env} {σ2 : L2.St} {H2 : Hp}, Stp (WW A env2 σ') H' H2 → SubS σ' env2 H' σ2 e2 → Stp (WW A envi σi) H H2 ∧ SubS σi envi H σ2 e2 := fun {e2 σ2 H2} s2 u2 => by
        refine ⟨st.no.trans (s2.weak w), fun a z => ?_, u2.len.trans l'⟩
        rcases u2.own a z with q | q
        · exact .inl (u' a q)
        · exact .inr fun w => q (st.mo a w)
      cases hr : evSs G b env2 with
      | bad => rw [hr] at qi; exact qi.elim
      | nx e2 =>
        rw [hr] at qi
        intro σ2 H2 s2 u2 E2
        obtain ⟨s3, u3⟩ := nxt s2 u2
        exact ⟨e2, E2, si.sTrans ui s3, ui.trans si u3, SatS.go qi s3 u3⟩
      | ct e2 =>
        rw [hr] at qi
        intro σ2 H2 s2 u2 E2
        obtain ⟨s3, u3⟩ := nxt s2 u2
        exact ⟨e2, E2, si.sTrans ui s3, ui.trans si u3, SatS.go qi s3 u3⟩
      | bk e2 =>
        rw [hr] at qi
        intro σ2 H2 s2 u2 E2
        obtain ⟨s3, u3⟩ := nxt s2 u2
        exact qi σ2 H2 s3 u3 E2
      | rt d e2 =>
        rw [hr] at qi
        intro σ2 v H2 s2 u2 E2
        obtain ⟨s3, u3⟩ := nxt s2 u2
        exact qi σ2 v H2 s3 u3 E2
      | rl d e2 =>
        rw [hr] at qi
        intro σ2 p vs H2 s2 u2 E2
        obtain ⟨s3, u3⟩ := nxt s2 u2
        exact qi σ2 p vs H2 s3 u3 E2
      | exc C f d e2 =>
        rw [hr] at qi
        intro σ2 dd v H2 s2 u2 E2
        obtain ⟨s3, u3⟩ := nxt s2 u2
        exact qi σ2 dd v H2 s3 u3 E2
  · rw [List.drop_length, forL] at qi
    exact qi σi H Stp.refl SubS.refl Ei
theorem st_for {tgE iter : Expr} {body : List Stmt} {tg : Tgt} {it : IT} {b : List ST} {pos : Pos} (h : PS X (.For tgE iter body [] pos) (tFor (tIi G W X.K it) (gT X.K tg) (tSs G W X.K b))) : PS X (.For tgE iter body [] pos) (tS G W X.K (.for_ tg it b)) := PS.by_ h fun D σ H q => by
  obtain ⟨H0, M0, A, env, E, q⟩ := q
  rw [evS] at q
  exact ⟨H0, M0, A, env, E, (SatS.toS q).mono fun ds e1 H1 _ s1 u1 E1 h1 J gJ => for_reads E1 gJ h1⟩
/-- a new list of one's own in a slot -/
theorem EnvR.setNew {K : PySem.W.Frag} {H0 H : Hp} {M0 A : AS} {env : Env} {σ : L2.St} (E : EnvR K H0 M0 A env σ H) {i : Nat} {ds : List D} {vs : List V} {p : Addr} {H' : Hp} (hf : freeB env i = true) (hp : ¬ Lv H p) (s : Stp NoA H H') (h' : H' p = some (.lst vs)) (r : RepL K H' (fun a => MM M0 env σ a ∨ a = p) ds vs) :
    EnvR K H0 M0 A (env.set i (some (.own ds))) (σ.set i (some (.ref p))) H' ∧ SubS σ env H (σ.set i (some (.ref p))) (env.set i (some (.own ds))) := by
  have hi := free_lt hf
  have hi' : i < σ.length := by rw [← E.len]; exact hi
  obtain ⟨n1, n2⟩ := E.freshL hp
  have other : ∀ {j c}, (env.set i (some (Cell.own ds)))[j]? = some (some c) → (i = j ∧ c = .own ds) ∨ (i ≠ j ∧ env[j]? = some (some c) ∧ (σ.set i (some (V.ref p)))[j]? = σ[j]?) := fun {j c} e1 => by
    by_cases hj : i = j
    · subst hj; rw [List.getElem?_set_self hi] at e1; cases e1; exact .inl ⟨rfl, rfl⟩
    · rw [List.getElem?_set_ne hj] at e1; exact .inr ⟨hj, e1, List.getElem?_set_ne hj⟩
  have mutI : ∀ b, MutAt (env.set i (some (Cell.own ds))) (σ.set i (some (V.ref p))) b → MutAt env σ b ∨ b = p := fun b ⟨j, es, e1, e2⟩ => by
    rcases other e1 with ⟨rfl, _⟩ | ⟨hj, e1, e3⟩
    · rw [List.getElem?_set_self hi'] at e2; cases e2; exact .inr rfl
    · rw [e3] at e2; exact .inl ⟨j, es, e1, e2⟩
  have subM : ∀ b, MM M0 (env.set i (some (Cell.own ds))) (σ.set i (some (V.ref p))) b → MM M0 env σ b ∨ b = p := fun b z => z.elim (fun q => .inl (.inl q)) fun q => (mutI b q).elim (fun q => .inl (.inr q)) .inr
  have gr : ∀ b, (MM M0 env σ b ∨ b = p) → MM M0 env σ b ∨ ¬ Lv H b := fun b z => z.elim .inl fun q => .inr (by rw [q]; exact hp)
  have rep : ∀ {d v}, Rep K H (MM M0 env σ) d v → Rep K H' (MM M0 (env.set i (some (Cell.own ds))) (σ.set i (some (V.ref p)))) d v := fun {d v} r => Rep.stp s.no subM d v (Rep.grow gr d v r)
  have repL : ∀ {es xs}, RepL K H (MM M0 env σ) es xs → RepL K H' (MM M0 (env.set i (some (Cell.own ds))) (σ.set i (some (V.ref p)))) es xs := fun {es xs} r => RepL.stp s.no subM es xs (RepL.grow gr es xs r)
  refine ⟨⟨by rw [List.length_set, List.length_set]; exact E.len, fun b o e n t => ?_, fun b h => s.mo b (E.alive b h), fun P q h => s.tb P q h (E.tb P q h), fun b hb => s.mo b (E.m0 b hb), E.aM, E.a1, fun j d' e1 => ?_, fun j es e1 => ?_, fun j es e1 => ?_, fun j k b es fs e1 e2 e3 e4 => ?_, fun j k es fs e1 e2 => ?_, fun j C ns es e1 => ?_⟩, fun b z => ?_, List.length_set⟩
  · exact s.st b o (E.old b o e n t) id t
  · rcases other e1 with ⟨rfl, e⟩ | ⟨hj, e1, e3⟩
    · cases e
    · obtain ⟨v, a1, a2⟩ := E.dat j d' e1
      exact ⟨v, e3.trans a1, rep a2⟩
  · rcases other e1 with ⟨rfl, e⟩ | ⟨hj, e1, e3⟩
    · cases e
      exact ⟨p, vs, List.getElem?_set_self hi', h', RepL.stp Stp.refl subM ds vs r, fun z => n1 (.inl z), n2⟩
    · obtain ⟨b, zs, a1, a2, a3, a4⟩ := E.own j es e1
      exact ⟨b, zs, e3.trans a1, s.st b _ a2 id nt_lst, repL a3, a4⟩
  · rcases other e1 with ⟨rfl, e⟩ | ⟨hj, e1, e3⟩
    · cases e
    · obtain ⟨b, zs, a1, a2, a3, a4⟩ := E.io j es e1
      exact ⟨b, zs, e3.trans a1, a2, s.st b _ a3 id nt_lst, repL a4⟩
  · have pn : ∀ {j es}, env[j]? = some (some (Cell.own es)) → σ[j]? = some (some (V.ref p)) → False := fun {j es} h1 h2 => by
      obtain ⟨b, zs, a1, a2, _⟩ := E.own j es h1
      rw [h2] at a1; cases a1
      exact hp (Lv.lst a2)
    rcases other e1 with ⟨rfl, e⟩ | ⟨hj, e1, e5⟩
    · rw [List.getElem?_set_self hi'] at e3; cases e3
      rcases other e2 with ⟨rfl, _⟩ | ⟨_, e2, e6⟩
      · rfl
      · rw [e6] at e4; exact (pn e2 e4).elim
    · rw [e5] at e3
      rcases other e2 with ⟨rfl, _⟩ | ⟨_, e2, e6⟩
      · rw [List.getElem?_set_self hi'] at e4; cases e4
        exact (pn e1 e3).elim
      · rw [e6] at e4
        exact E.inj j k b es fs e1 e2 e3 e4
  · rcases other e1 with ⟨rfl, e⟩ | ⟨_, e1, _⟩
    · cases e
    · rcases other e2 with ⟨rfl, e⟩ | ⟨_, e2, _⟩
      · cases e
      · exact E.io1 j k es fs e1 e2
  · rcases other e1 with ⟨rfl, e⟩ | ⟨_, e1, _⟩
    · cases e
    · exact E.slf j C ns es e1
  · rcases mutI b z with q | q
    · exact .inl q
    · exact .inr (by rw [q]; exact hp)
def tIl (G : Ctx) (W : WX) (K : PySem.W.Frag) (m : LM) : TE := fun σ H Q => ∃ H0 M0 A env, EnvR K H0 M0 A env σ H ∧ Sat K H0 M0 A W (evL G m env) env σ H fun ds e1 H1 => ds.length ≤ BIG ∧ ∀ vs p H', Stp NoA H1 H' → ¬ Lv H1 p → H' p = some (.lst vs) → RepL K H' (fun a => MM M0 e1 σ a ∨ a = p) ds vs → Q (.ref p) H'
theorem new_rep {K : PySem.W.Frag} {H : Hp} {M : AS} {p : Addr} {ds : List D} {vs : List V} (hp : H p = none) (r : RepL K H M ds vs) : RepL K (upd H p (.lst vs)) (fun a => M a ∨ a = p) ds vs :=
  RepL.stp (Stp.new hp) (fun _ z => z) ds vs (RepL.grow (fun a z => z.elim .inl fun q => .inr (by rw [q]; exact nn_of hp)) ds vs r)
theorem l_lst {es : List Expr} {is : List IR} {pos : Pos} (h : PA X es (tIs G W X.K is)) : PE X (.List es pos) (tIl G W X.K (.lst is)) := PE.by_ (pe_lst h) fun σ H Q q => by
  obtain ⟨H0, M0, A, env, E, q⟩ := q
  rw [evL] at q
  refine ⟨H0, M0, A, env, E, q.mono fun ds e1 H1 _ s1 u1 E1 h1 xs hx => ?_⟩
  have hs : sizeLine = 16777216 := sizeLine_eq
  exact ⟨by rw [← hx.length]; have := h1.1; unfold BIG at this; omega, fun p hp => h1.2 xs p _ (Stp.new hp) (nn_of hp) upd_same (new_rep hp hx)⟩
theorem st_new {tgE e : Expr} {i : Nat} {m : LM} {pos : Pos} (h : PS X (.Assign [tgE] e pos) (tAsg (tIl G W X.K m) (gName i))) : PS X (.Assign [tgE] e pos) (tS G W X.K (.new i m)) := PS.by_ h fun D σ H q => by
  obtain ⟨H0, M0, A, env, E, q⟩ := q
  rw [evS] at q
  refine ⟨H0, M0, A, env, E, (SatS.toS q).mono fun ds e1 H1 _ s1 u1 E1 h1 => ?_⟩
  by_cases hc : ds.length ≤ BIG ∧ freeB e1 i = true
  · rw [if_pos hc] at h1
    refine ⟨hc.1, fun vs p H' s hp h' r => ?_⟩
    obtain ⟨E2, u2⟩ := E1.setNew hc.2 hp s h' r
    exact h1 _ _ s.no u2 E2
  · rw [if_neg hc] at h1; exact h1.elim
end
end Mp
set_option maxHeartbeats 4000000
namespace Mp
open PySem L2 PyProof.Rows
variable [TabsW] [GdW]
section
variable {X : Cx} {G : Ctx} {W : WX}
theorem ix_in' {n : Nat} {k : Int} (h0 : 0 ≤ k) (h1 : k < n) : ixN n k = some k.toNat := by
  unfold ixN
  rw [if_pos h0, if_pos h1]
theorem place_at {K : PySem.W.Frag} {H0 H : Hp} {M0 A : AS} {env : Env} {σ : L2.St} {i : Nat} (E : EnvR K H0 M0 A env σ H) (h : placeB env i = true) : ∃ a, σ[i]? = some (some (V.ref a)) := by
  unfold placeB at h
  cases e : env[i]? with
  | none => rw [e] at h; cases h
  | some o =>
    rw [e] at h
    cases o with
    | none => cases h
    | some c =>
      cases c with
      | own ds => obtain ⟨a, xs, g, _⟩ := E.own i ds e; exact ⟨a, g⟩
      | io ds => obtain ⟨a, xs, g, _⟩ := E.io i ds e; exact ⟨a, g⟩
      | _ => cases h
theorem st_six {tgE e : Expr} {i : Nat} {ie e' : IR} {pos : Pos} (h : PS X (.Assign [tgE] e pos) (tAsg (tI G W X.K e') (gSub (tVar i) (tI G W X.K ie) rSetL))) : PS X (.Assign [tgE] e pos) (tS G W X.K (.six i ie e')) := PS.by_ h fun D σ H q => by
  obtain ⟨H0, M0, A, env, E, q⟩ := q
  rw [evS] at q
  refine take_readS E q fun d v e1 H1 E1 rd s1 u1 h1 => ?_
  by_cases ho : placeB e1 i = true
  · rw [if_pos ho] at h1
    obtain ⟨a, g1⟩ := place_at E1 ho
    refine ⟨_, g1, rd_readS E1 h1 fun k kv e2 H2 E2 rk s2 u2 h2 => ?_⟩
    have rd2 := hold rd E1.aM s2 u2
    cases k with
    | int k =>
      cases h3 : e2[i]? with
      | none => rw [h3] at h2; exact h2.elim
      | some c =>
        rw [h3] at h2
        cases c with
        | none => exact h2.elim
        | some c =>
          cases c with
          | own ds' =>
            dsimp only at h2
            by_cases hk : 0 ≤ k ∧ k < ds'.length
            · rw [if_pos hk] at h2
              obtain ⟨a', xs', f1, f2, f3, f4⟩ := E2.own i ds' h3
              rw [g1] at f1; cases f1
              refine ⟨a, xs', k, k.toNat, rfl, rk.int, f2, ix_in' hk.1 (by rw [← f3.length]; exact hk.2), ?_⟩
              have st : Stp (fun x => x = a) H2 (upd H2 a (.lst (xs'.set k.toNat v))) := Stp.set rfl (pl_at f2)
              have stM : Stp (MM M0 e2 σ) H2 (upd H2 a (.lst (xs'.set k.toNat v))) := st.weak fun x z => z ▸ .inr ⟨i, ds', h3, g1⟩
              obtain ⟨E3, u3, _⟩ := E2.setOwn h3 g1 st upd_same (out := ds'.set k.toNat d) ((RepL.stp stM (fun _ z => z) ds' xs' f3).set (Rep.stp stM (fun _ z => z) d v rd2))
              exact h2 σ _ (st.weak fun x z => z ▸ .inr ⟨i, ds', h3, g1⟩) u3.toS E3
            · rw [if_neg hk] at h2; exact h2.elim
          | io ds' =>
            dsimp only at h2
            by_cases hk : 0 ≤ k ∧ k < ds'.length
            · rw [if_pos hk] at h2
              obtain ⟨a', xs', f1, f0, f2, f3⟩ := E2.io i ds' h3
              rw [g1] at f1; cases f1
              refine ⟨a, xs', k, k.toNat, rfl, rk.int, f2, ix_in' hk.1 (by rw [← f3.length]; exact hk.2), ?_⟩
              have st : Stp (fun x => x = a) H2 (upd H2 a (.lst (xs'.set k.toNat v))) := Stp.set rfl (pl_at f2)
              have stM : Stp (MM M0 e2 σ) H2 (upd H2 a (.lst (xs'.set k.toNat v))) := st.weak fun x z => z ▸ .inl (E2.aM a f0)
              obtain ⟨E3, u3, _⟩ := E2.setIo h3 g1 st upd_same (out := ds'.set k.toNat d) ((RepL.stp stM (fun _ z => z) ds' xs' f3).set (Rep.stp stM (fun _ z => z) d v rd2))
              exact h2 σ _ (st.weak fun x z => z ▸ .inl f0) u3.toS E3
            · rw [if_neg hk] at h2; exact h2.elim
          | _ => exact h2.elim
    | _ => exact h2.elim
  · rw [if_neg ho] at h1; exact h1.elim
theorem st_nev {s : Stmt} : PS X s (tS G W X.K .nev) := PS.by_ ps_never fun D σ H q => by
  obtain ⟨H0, M0, A, env, E, q⟩ := q
  rw [evS] at q
  exact q.elim
theorem names_par2 {i j : Nat} {vs : List V} {σ : L2.St} {H : Hp} {P : L2.St → Hp → Prop} (h : gNames [i, j] vs σ H P) : ∃ v w, vs = [v, w] ∧ P ((σ.set i (some v)).set j (some w)) H := by
  obtain ⟨v, r, rfl, w, r', rfl, rfl, h⟩ := h
  exact ⟨v, w, rfl, h⟩
theorem par_read {K : PySem.W.Frag} {ns : List Nat} {es : List IR} {D : Ends} {σ : L2.St} {H : Hp} (q : tS G W K (.par ns es) D σ H) : tIs G W K es σ H fun vs H1 => gNames ns vs σ H1 D.nx := by
  obtain ⟨H0, M0, A, env, E, q⟩ := q
  rw [evS] at q
  refine ⟨H0, M0, A, env, E, (SatS.toS q).mono fun ds e1 H1 _ s1 u1 E1 h1 vs r => ?_⟩
  cases hb : bindT (.tup ns) (.tup ds) e1 with
  | none => rw [hb] at h1; exact h1.elim
  | some e2 =>
    rw [hb] at h1
    unfold bindT at hb
    dsimp only at hb
    by_cases hc : ds.length = ns.length ∧ ns.all (freeB e1) = true
    · rw [if_pos hc] at hb
      cases hb
      exact names_read ns ds vs e1 σ _ E1 hc.2 hc.1 r fun σ' E' u' l' o' => h1 σ' H1 Stp.refl ⟨fun a z => .inl (u' a z), l'⟩ E'
    · rw [if_neg hc] at hb; cases hb
theorem st_par2 {s : Stmt} {i j : Nat} {es : List IR} (h : PS X s (tPar i j (tIs G W X.K es))) : PS X s (tS G W X.K (.par [i, j] es)) := PS.by_ h fun D σ H q => by
  obtain ⟨H0, M0, A, env, E, q⟩ := par_read q
  exact ⟨H0, M0, A, env, E, q.mono fun ds e1 H1 _ s1 u1 E1 h1 vs r => names_par2 (h1 vs r)⟩
end
def cellF (io : Option Nat) (i : Nat) (d : D) : Option Cell := if io = some i then (match d with
  | .lst es => some (.io es)
  | _ => none) else some (.dat d)
def cellsF (io : Option Nat) : Nat → List D → Env
  | _, [] => []
  | i, d :: ds => cellF io i d :: cellsF io (i + 1) ds
def startE (io : Option Nat) (m : Nat) (ds : List D) : Env := cellsF io 0 ds ++ List.replicate (m - ds.length) none
def outE (io : Option Nat) (e : Env) : Option (List D) := match io with
  | none => some []
  | some i => match e[i]? with
    | some (some (.io ds)) => some ds
    | _ => none
/-- what a def with the body b yields: m slots -/
def semB (G : Ctx) (m : Nat) (io : Option Nat) (b : List ST) (ds : List D) : FR := match evSs G b (startE io m ds) with
  | .rt d e => (match outE io e with
    | some out => .ok d out
    | none => .bad)
  | .nx e => (match outE io e with
    | some out => .ok .non out
    | none => .bad)
  | .rl ds e => (match outE io e with
    | some out => .ok (.lst ds) out
    | none => .bad)
  | .exc C f d e => (match outE io e with
    | some out => .exc C f d out
    | none => .bad)
  | _ => .bad
theorem cells_get {io : Option Nat} : ∀ {ds : List D} {n j : Nat} {c : Cell}, (cellsF io n ds)[j]? = some (some c) → ∃ d, ds[j]? = some d ∧ cellF io (n + j) d = some c
  | [], n, j, c, h => by unfold cellsF at h; simp at h
  | d :: ds, n, 0, c, h => by
    unfold cellsF at h
    simp only [List.getElem?_cons_zero, Option.some.injEq] at h
    exact ⟨d, by simp, h⟩
  | d :: ds, n, j + 1, c, h => by
    unfold cellsF at h
    rw [List.getElem?_cons_succ] at h
    obtain ⟨e, e1, e2⟩ := cells_get h
    exact ⟨e, by simpa using e1, by rw [show n + (j + 1) = n + 1 + j by omega]; exact e2⟩
theorem cells_len {io : Option Nat} : ∀ {ds : List D} {n : Nat}, (cellsF io n ds).length = ds.length
  | [], n => rfl
  | d :: ds, n => by unfold cellsF; simp [cells_len]
theorem start_get {io : Option Nat} {m : Nat} {ds : List D} {j : Nat} {c : Cell} (h : (startE io m ds)[j]? = some (some c)) : ∃ d, ds[j]? = some d ∧ cellF io j d = some c := by
  unfold startE at h
  by_cases hj : j < (cellsF io 0 ds).length
  · rw [List.getElem?_append_left hj] at h
    obtain ⟨d, a, b⟩ := cells_get h
    exact ⟨d, a, by rw [Nat.zero_add] at b; exact b⟩
  · rw [List.getElem?_append_right (by omega)] at h
    rw [List.getElem?_replicate] at h
    split at h <;> cases h
theorem start_at {N : List Str} {vs : List V} {j : Nat} {v : V} (h : vs[j]? = some v) : (L2.start N vs)[j]? = some (some v) := by
  unfold L2.start
  have hj : j < vs.length := (List.getElem?_eq_some_iff.mp h).1
  rw [List.getElem?_append_left (by simpa using hj), List.getElem?_map, h]
  rfl
section
variable {K : PySem.W.Frag} {G : Ctx}
theorem env0 {H : Hp} {M : AS} {io : Option Nat} {ds : List D} {vs : List V} {N : List Str} (hl : vs.length ≤ N.length) (hM : MOk M H) (ar : ArgR K H M io ds vs) : EnvR K H M (IoA io vs) (startE io N.length ds) (L2.start N vs) H ∧ ∀ a, ¬ MutAt (startE io N.length ds) (L2.start N vs) a := by
  obtain ⟨len, at_⟩ := ar
  have cells : ∀ {j c}, (startE io N.length ds)[j]? = some (some c) → ∃ d v, ds[j]? = some d ∧ vs[j]? = some v ∧ cellF io j d = some c := fun {j c} h => by
    obtain ⟨d, a, b⟩ := start_get h
    have hj : j < vs.length := by rw [← len]; exact (List.getElem?_eq_some_iff.mp a).1
    exact ⟨d, vs[j], a, List.getElem?_eq_getElem hj, b⟩
  have noM : ∀ a, ¬ MutAt (startE io N.length ds) (L2.start N vs) a := fun a ⟨j, es, e1, e2⟩ => by
    obtain ⟨d, v, h1, h2, h3⟩ := cells e1
    unfold cellF at h3
    split at h3
    · split at h3 <;> cases h3
    · cases h3
  have subM : ∀ a, MM M (startE io N.length ds) (L2.start N vs) a → M a := fun a z => z.elim id fun q => (noM a q).elim
  have isIo : ∀ {j es}, (startE io N.length ds)[j]? = some (some (Cell.io es)) → io = some j ∧ ds[j]? = some (.lst es) ∧ ∃ v, vs[j]? = some v := fun {j es} h => by
    obtain ⟨d, v, h1, h2, h3⟩ := cells h
    unfold cellF at h3
    split at h3
    · rename_i hio
      split at h3
      · cases h3; exact ⟨hio, h1, v, h2⟩
      · cases h3
    · cases h3
  refine ⟨⟨?_, fun a o h _ _ => h, fun _ h => h, hM.tb, hM.al, fun a ⟨i, e1, e2⟩ => ?_, fun a b ⟨i, e1, e2⟩ ⟨j, f1, f2⟩ => ?_, fun j d h => ?_, fun j es h => ?_, fun j es h => ?_, fun j k a es fs h1 h2 h3 h4 => ?_, fun j k es fs h1 h2 => ?_, fun j C ns es h => ?_⟩, noM⟩
  · unfold startE L2.start
    rw [List.length_append, cells_len, List.length_replicate, List.length_append, List.length_map, List.length_replicate, len]
  · have hj : i < ds.length := by rw [len]; exact (List.getElem?_eq_some_iff.mp e2).1
    obtain ⟨a', xs, es, _, z, m, _⟩ := (at_ i ds[i] _ (List.getElem?_eq_getElem hj) e2).2 e1
    cases z; exact m
  · rw [e1] at f1; cases f1
    rw [e2] at f2; cases f2
    rfl
  · obtain ⟨d', v, h1, h2, h3⟩ := cells h
    unfold cellF at h3
    split at h3
    · split at h3 <;> cases h3
    · rename_i hio
      cases h3
      exact ⟨v, start_at h2, Rep.stp Stp.refl subM d v ((at_ j d v h1 h2).1 hio)⟩
  · obtain ⟨d', v, h1, h2, h3⟩ := cells h
    unfold cellF at h3
    split at h3
    · split at h3 <;> cases h3
    · cases h3
  · obtain ⟨hio, h1, v, h2⟩ := isIo h
    obtain ⟨a, xs, es', z1, z2, z3, z4, z5⟩ := (at_ j _ v h1 h2).2 hio
    cases z1
    subst z2
    exact ⟨a, xs, start_at h2, ⟨j, hio, h2⟩, z4, RepL.stp Stp.refl subM es xs z5⟩
  · exact (noM a ⟨j, es, h1, h3⟩).elim
  · have a1 := (isIo h1).1
    have a2 := (isIo h2).1
    rw [a1] at a2
    exact Option.some.inj a2
  · obtain ⟨d', v, h1, h2, h3⟩ := cells h
    unfold cellF at h3
    split at h3
    · split at h3 <;> cases h3
    · cases h3
/-- from a promise to the reading of the body -/
theorem body_read {n : Nat} {io : Option Nat} {b : List ST} {N : List Str} {vs : List V} {H : Hp} {Q : VK} {E : XK} (hn : n ≤ N.length) (h : spF K n io (semB G N.length io b) vs H Q E) :
    tSs G (fun cls d _ H' => E cls d H') K b { nx := fun _ H' => Q .non H', rt := Q } (L2.start N vs) H := by
  obtain ⟨hl, M, ds, hM, ar, h⟩ := h
  obtain ⟨E0, noM⟩ := env0 (N := N) (by rw [hl]; exact hn) hM ar
  have fl : ∀ {e' : Env} {σ' : L2.St} {H' : Hp} {out : List D}, Stp (WW (IoA io vs) (startE io N.length ds) (L2.start N vs)) H H' → EnvR K H M (IoA io vs) e' σ' H' → outE io e' = some out → Stp (IoA io vs) H H' ∧ OutR K H' M io out vs := fun {e' σ' H' out} s E' ho => by
    refine ⟨s.weak fun a z => z.elim id fun q => (noM a q).elim, fun i hi => ?_⟩
    subst hi
    unfold outE at ho
    dsimp only at ho
    cases q : e'[i]? with
    | none => rw [q] at ho; cases ho
    | some c =>
      rw [q] at ho
      cases c with
      | none => cases ho
      | some c =>
        cases c with
        | io es =>
          cases ho
          obtain ⟨a, xs, a1, ⟨j, b1, b2⟩, a3, a4⟩ := E'.io i out q
          cases b1
          exact ⟨a, xs, b2, a3, RepL.stp Stp.refl (fun _ z => .inl z) out xs a4⟩
        | _ => cases ho
  refine ⟨H, M, IoA io vs, startE io N.length ds, E0, ?_⟩
  unfold semB at h
  cases hr : evSs G b (startE io N.length ds) with
  | bad => rw [hr] at h; exact h.elim
  | bk e => rw [hr] at h; exact h.elim
  | ct e => rw [hr] at h; exact h.elim
  | nx e =>
    rw [hr] at h
    dsimp only at h
    cases ho : outE io e with
    | none => rw [ho] at h; exact h.elim
    | some out =>
      rw [ho] at h
      intro σ' H' s u E'
      obtain ⟨f1, f2⟩ := fl s E' ho
      exact h .non H' f1 f2 rep_non
  | rt d e =>
    rw [hr] at h
    dsimp only at h
    cases ho : outE io e with
    | none => rw [ho] at h; exact h.elim
    | some out =>
      rw [ho] at h
      intro σ' v H' s u E' r
      obtain ⟨f1, f2⟩ := fl s E' ho
      exact h v H' f1 f2 (Rep.stp Stp.refl (fun _ z => .inl z) d v r)
  | rl d e =>
    rw [hr] at h
    dsimp only at h
    cases ho : outE io e with
    | none => rw [ho] at h; exact h.elim
    | some out =>
      rw [ho] at h
      intro σ' p vs H' s u E' h0 hM hp r
      obtain ⟨f1, f2⟩ := fl s E' ho
      refine h (.ref p) H' f1 f2 ?_
      unfold Rep
      exact ⟨p, vs, rfl, .inl ⟨hM, Rd.of hp⟩, RepL.stp Stp.refl (fun _ z => .inl z) d vs r⟩
  | exc C f d e =>
    rw [hr] at h
    dsimp only at h
    cases ho : outE io e with
    | none => rw [ho] at h; exact h.elim
    | some out =>
      rw [ho] at h
      intro σ' dd v H' s u E' hd r
      obtain ⟨f1, f2⟩ := fl s E' ho
      exact h dd v H' f1 f2 hd (Rep.stp Stp.refl (fun _ z => .inl z) d v r)
end
section
variable {P : Program} {w : World} {K : PySem.W.Frag} {mg : Str → Option Value} {base : Heap} {G : Ctx}
/-- THE RULE: a def by the text of its body -/
theorem fn_body {x qual : Str} {st : Stmt} {f : Addr} {fd : FuncData} {N ps : List Str} {k : Nat} {io : Option Nat} {b : List ST} (F : Fun K x qual st f fd) (S : FnScope N ps (defScope st)) (hn : ps.length ≤ N.length)
    (hb : ∀ (cdv : Value) (A : Around) (outer : List PySem.Env) (s : Shared) (H : Hp) (E : XK), Room k (A.deeper (envOfC qual (defScope st) s.heap.objs.size f cdv)) →
      PSs (cxOf (L2.CX P w) P w K mg base N qual (defScope st) f cdv A outer s H E) (defBody st) (tSs G (fun cls d _ H' => E cls d H') K b)) :
    FnOk P w K mg base (L2.CX P w) (k + 1) f fd ps (spF K ps.length io (semB G N.length io b)) :=
  fun_okX F S (fun vs H Q E h => h.1) fun cdv A outer s H vs Q E hr h => ⟨_, hb cdv A outer s H E hr, body_read hn h⟩
end
end Mp
set_option maxHeartbeats 4000000
namespace Mp
open PySem L2 PyProof.Rows
variable [TabsW] [GdW]
section
variable {X : Cx} {G : Ctx} {W : WX}
theorem free_set {env : Env} {i j : Nat} {c : Option Cell} (h : i ≠ j) : freeB (env.set i c) j = freeB env j := by
  unfold freeB
  rw [List.getElem?_set_ne h]
theorem st_parn {s : Stmt} {i j : Nat} {e : IR} {m : LM} (h : PS X s (tPar i j (fun σ H Q => tI G W X.K e σ H fun x H1 => tIl G W X.K m σ H1 fun y H2 => Q [x, y] H2))) : PS X s (tS G W X.K (.parn i e j m)) := PS.by_ h fun D σ H q => by
  obtain ⟨H0, M0, A, env, E, q⟩ := q
  rw [evS] at q
  refine take_readS E q fun d v e1 H1 E1 rd s1 u1 h1 => ⟨H0, M0, A, e1, E1, (SatS.toS h1).mono fun ds e2 H2 _ s2 u2 E2 h2 => ?_⟩
  by_cases hc : ds.length ≤ BIG ∧ freeB e2 i = true ∧ freeB e2 j = true ∧ i ≠ j
  · rw [if_pos hc] at h2
    obtain ⟨hl, hi, hj, hne⟩ := hc
    refine ⟨hl, fun vs p H' s hp h' r => ⟨v, .ref p, rfl, ?_⟩⟩
    have rd2 := hold rd E1.aM s2 u2
    obtain ⟨E3, u3⟩ := E2.setDat (free_lt hi) rd2
    obtain ⟨E4, u4⟩ := E3.setNew (by rw [free_set hne]; exact hj) hp s h' (RepL.stp Stp.refl (fun a z => z.elim (fun q => .inl (q.elim .inl fun q => .inr (u3 a q))) .inr) ds vs r)
    exact h2 _ _ s.no ⟨fun a z => (u4.own a z).elim (fun q => .inl (u3 a q)) .inr, by rw [u4.len, List.length_set]⟩ E4
  · rw [if_neg hc] at h2; exact h2.elim
theorem st_parn3 {s : Stmt} {i j k : Nat} {a b : IR} {m : LM} (h : PS X s (tPar3 i j k (fun σ H Q => tI G W X.K a σ H fun x H1 => tI G W X.K b σ H1 fun y H2 => tIl G W X.K m σ H2 fun z H3 => Q [x, y, z] H3))) : PS X s (tS G W X.K (.parn3 i a j b k m)) := PS.by_ h fun D σ H q => by
  obtain ⟨H0, M0, A, env, E, q⟩ := q
  rw [evS] at q
  refine take_readS E q fun d v e1 H1 E1 rd s1 u1 h1 => take_readS E1 h1 fun d2 v2 e2 H2 E2 rd2 s2 u2 h2 => ⟨H0, M0, A, e2, E2, (SatS.toS h2).mono fun ds e3 H3 _ s3 u3 E3 h3 => ?_⟩
  by_cases hc : ds.length ≤ BIG ∧ freeB e3 i = true ∧ freeB e3 j = true ∧ freeB e3 k = true ∧ i ≠ j ∧ i ≠ k ∧ j ≠ k
  · rw [if_pos hc] at h3
    obtain ⟨hl, hi, hj, hk, hij, hik, hjk⟩ := hc
    refine ⟨hl, fun vs p H' s hp h' r => ⟨v, v2, .ref p, rfl, ?_⟩⟩
    have rd' := hold (hold rd E1.aM s2 u2) E2.aM s3 u3
    have rd2' := hold rd2 E2.aM s3 u3
    obtain ⟨E4, u4⟩ := E3.setDat (free_lt hi) rd'
    obtain ⟨E5, u5⟩ := E4.setDat (i := j) (by rw [List.length_set]; exact free_lt hj) (Rep.stp Stp.refl (fun a z => z.elim .inl fun q => .inr (u4 a q)) d2 v2 rd2')
    obtain ⟨E6, u6⟩ := E5.setNew (i := k) (by rw [free_set hjk, free_set hik]; exact hk) hp s h' (RepL.stp Stp.refl (fun a z => z.elim (fun q => .inl (q.elim .inl fun q => .inr (u4 a (u5 a q)))) .inr) ds vs r)
    exact h3 _ _ s.no ⟨fun a z => (u6.own a z).elim (fun q => .inl (u4 a (u5 a q))) .inr, by rw [u6.len, List.length_set, List.length_set]⟩ E6
  · rw [if_neg hc] at h3; exact h3.elim
theorem st_retl {e : Expr} {m : LM} {pos : Pos} (he : PE X e (tIl G W X.K m)) : PS X (.Return (some e) pos) (tS G W X.K (.retl m)) := PS.by_ (ps_ret he) fun D σ H q => by
  obtain ⟨H0, M0, A, env, E, q⟩ := q
  rw [evS] at q
  refine ⟨H0, M0, A, env, E, (SatS.toS q).mono fun ds e1 H1 _ s1 u1 E1 h1 => ?_⟩
  by_cases hc : ds.length ≤ BIG
  · rw [if_pos hc] at h1
    exact ⟨hc, fun vs p H' s hp h' r => h1 σ p vs H' s.no SubS.refl (E1.keep s) (E1.freshL hp).2 (fun z => (E1.freshL hp).1 (.inl z)) h' (RepL.stp Stp.refl (fun a z => z.elim (fun q => .inl (.inl q)) .inr) ds vs r)⟩
  · rw [if_neg hc] at h1; exact h1.elim
end
def spFr (K : PySem.W.Frag) (n : Nat) (F : List D → FR) : Sp := fun vs H Q E => vs.length = n ∧ ∃ (M : AS) (ds : List D), MOk M H ∧ RepL K H M ds vs ∧ (match F ds with
  | .ok (.lst es) _ => es.length ≤ BIG ∧ ∀ p xs H', Stp NoA H H' → ¬ Lv H p → H' p = some (.lst xs) → RepL K H' (fun a => M a ∨ a = p) es xs → Q (.ref p) H'
  | .exc C f d _ => ∀ dd v H', Stp NoA H H' → H' dd = some (.xd [(f, v)]) → Rep K H' M d v → E (.ref (clsAt K C)) (some dd) H'
  | _ => False)
structure FrF (P : Program) (w : World) (K : PySem.W.Frag) (mg : Str → Option Value) (base : Heap) (k : Nat) (x : Str) (f : Fn) : Prop where
  dbg : (x == ("__debug__" : Str)) = false
  ex : ∃ (a : Addr) (fd : FuncData) (ps : List Str) (sp : Sp) (ds : List Value) (dvs : List V), mg x = some (.ref a) ∧ PySem.W.keepIn K (.ref a) = true ∧ FnOk P w K mg base (L2.CX P w) k a fd ps sp ∧ Binds K fd ps ds ∧ Vals dvs ds ∧
    ∀ vs H Q E, spFr K f.n f.sem vs H Q E → sp (vs ++ dvs) H Q E
section
variable {X : Cx} {G : Ctx} {W : WX}
theorem l_call {k j : Nat} {f : Fn} {x : Str} {e : Expr} {es : List Expr} {is : List IR} {p pos : Pos} (F : FrF X.prog X.w X.K X.mg X.base k x f) (hj : G.frs[j]? = some f) (hr : Room k X.A) (tk : Takes X W) (hg : Gl X x) (ha : PA X (e :: es) (tIs G W X.K is)) (h1 : (e :: es).any starB = false) :
    PE X (.Call (.Name x p) (e :: es) [] pos) (tIl G W X.K (.call j is)) := by
  rw [List.any_cons, Bool.or_eq_false_iff] at h1
  obtain ⟨a, fd, ps, sp, ds, dvs, hm, hk, ok, hb, hd, hs⟩ := F.ex
  refine PE.by_ (pe_callSD ok hr hg hm hk hb hd (fun σ => passAt tk σ) ha F.dbg (star_cons h1.1) (star_none h1.2)) fun σ H Q q => ?_
  obtain ⟨H0, M0, A, env, E, q⟩ := q
  rw [evL, hj] at q
  dsimp only at q
  by_cases hl : is.length = f.n
  · rw [if_pos hl] at q
    refine ⟨H0, M0, A, env, E, (Sat.bind q).mono fun vs e1 H1 he s1 u1 E1 h1 ws hw => hs ws H1 Q _ ?_⟩
    refine ⟨by rw [← hw.length, evs_len G is env vs e1 he]; exact hl, MM M0 e1 σ, vs, E1.mok, hw, ?_⟩
    cases e : f.sem vs with
    | bad => rw [e] at h1; exact h1.elim
    | ok d out =>
      rw [e] at h1
      cases d with
      | lst ds =>
        have h2 := h1 H1 Stp.refl Sub.refl E1
        exact ⟨h2.1, fun p xs H' s hp h' r => h2.2 xs p H' s hp h' r⟩
      | _ => exact h1.elim
    | exc C g d out =>
      rw [e] at h1
      intro dd v H' st hd rv
      exact h1 dd v H' st.no Sub.refl (E1.keep st) hd rv
  · rw [if_neg hl] at q; exact q.elim
/-- what such a body yields -/
def semBF (G : Ctx) (m : Nat) (b : List ST) (ds : List D) : FR := match evSs G b (startE none m ds) with
  | .rl es e => if es.length ≤ BIG then .ok (.lst es) [] else .bad
  | .exc C f d e => .exc C f d []
  | _ => .bad
theorem body_readF {K : PySem.W.Frag} {n : Nat} {b : List ST} {N : List Str} {vs : List V} {H : Hp} {Q : VK} {E : XK} (hn : n ≤ N.length) (h : spFr K n (semBF G N.length b) vs H Q E) :
    tSs G (fun cls d _ H' => E cls d H') K b { nx := fun _ H' => Q .non H', rt := Q } (L2.start N vs) H := by
  obtain ⟨hl, M, ds, hM, rr, h⟩ := h
  have ar : ArgR K H M none ds vs := ⟨rr.length, fun i d v h1 h2 => ⟨fun _ => by
    obtain ⟨v', g1, g2⟩ := rr.get h1
    rw [h2] at g1; cases g1
    exact g2, fun z => nomatch z⟩⟩
  obtain ⟨E0, noM⟩ := env0 (N := N) (by rw [hl]; exact hn) hM ar
  have fl : ∀ {H' : Hp}, Stp (WW (IoA none vs) (startE none N.length ds) (L2.start N vs)) H H' → Stp NoA H H' := fun {H'} s => s.weak fun a z => z.elim (fun ⟨i, z, _⟩ => nomatch z) fun q => (noM a q).elim
  refine ⟨H, M, IoA none vs, startE none N.length ds, E0, ?_⟩
  unfold semBF at h
  cases hr : evSs G b (startE none N.length ds) with
  | rl es e =>
    rw [hr] at h
    dsimp only at h
    by_cases hB : es.length ≤ BIG
    · rw [if_pos hB] at h
      intro σ' p xs H' s u E' h0 hM' hp r
      exact h.2 p xs H' (fl s) h0 hp r
    · rw [if_neg hB] at h; exact h.elim
  | exc C f d e =>
    rw [hr] at h
    intro σ' dd v H' s u E' hd r
    exact h dd v H' (fl s) hd (Rep.stp Stp.refl (fun _ z => .inl z) d v r)
  | _ => rw [hr] at h; exact h.elim
end
section
variable {P : Program} {w : World} {K : PySem.W.Frag} {mg : Str → Option Value} {base : Heap} {G : Ctx}
theorem fn_bodyF {x qual : Str} {st : Stmt} {f : Addr} {fd : FuncData} {N ps : List Str} {k : Nat} {b : List ST} (F : Fun K x qual st f fd) (S : FnScope N ps (defScope st)) (hn : ps.length ≤ N.length)
    (hb : ∀ (cdv : Value) (A : Around) (outer : List PySem.Env) (s : Shared) (H : Hp) (E : XK), Room k (A.deeper (envOfC qual (defScope st) s.heap.objs.size f cdv)) →
      PSs (cxOf (L2.CX P w) P w K mg base N qual (defScope st) f cdv A outer s H E) (defBody st) (tSs G (fun cls d _ H' => E cls d H') K b)) :
    FnOk P w K mg base (L2.CX P w) (k + 1) f fd ps (spFr K ps.length (semBF G N.length b)) :=
  fun_okX F S (fun vs H Q E h => h.1) fun cdv A outer s H vs Q E hr h => ⟨_, hb cdv A outer s H E hr, body_readF hn h⟩
end
section
variable {X : Cx} {G : Ctx} {W : WX}
theorem iota_rep {K : PySem.W.Frag} {H : Hp} {M : AS} : ∀ (n : Nat) (lo : Int), RepL K H M (iotaD lo n) ((List.range n).map fun i => V.int (lo + (i : Nat)))
  | 0, lo => by unfold iotaD RepL; rfl
  | n + 1, lo => by
    have e : ((List.range (n + 1)).map fun i => V.int (lo + (i : Nat))) = V.int lo :: ((List.range n).map fun i => V.int (lo + 1 + (i : Nat))) := by
      rw [List.range_succ_eq_map, List.map_cons, List.map_map]
      congr 1
      · simp
      · refine List.map_congr_left fun i _ => ?_
        show V.int (lo + ((i + 1 : Nat) : Int)) = V.int (lo + 1 + (i : Nat))
        congr 1
        omega
    rw [e]
    unfold iotaD
    exact RepL.cons (rep_int lo) (iota_rep n (lo + 1))
theorem e_lrng {a : Expr} {i : IR} {p1 p2 p3 p4 : Pos} (hc : X.calm = true) (hg : Gl X "list") (hm : X.mg "list" = none) (hg2 : Gl X "range") (hm2 : X.mg "range" = none) (ha : PE X a (tI G W X.K i)) (hs : starB a = false) :
    PE X (.Call (.Name "list" p1) [.Call (.Name "range" p2) [a] [] p3] [] p4) (tI G W X.K (.lrng i)) :=
  PE.by_ (pe_listRg hc hg hm (prg_1 hg2 hm2 ha (star_cons hs)) (star_cons rfl)) fun σ H Q q => by
    obtain ⟨H0, M0, A, env, E, q⟩ := q
    rw [ev] at q
    refine rd_read E q fun d v e1 H1 E1 rd s1 u1 h1 => ?_
    cases d with
    | int j =>
      have h1 : Sat X.K H0 M0 A W (if -1000000 ≤ j ∧ j ≤ BIG then R.ok (.val (.lst (iotaD 0 j.toNat))) e1 else .bad) e1 σ H1 (fun o e1 H1 => ∀ v, OpdR X.K M0 e1 σ H1 o v → Q v H1) := h1
      by_cases hj : -1000000 ≤ j ∧ j ≤ BIG
      · rw [if_pos hj] at h1
        have hB : (BIG : Int) = 100000 := rfl
        refine ⟨j, rd.int, ⟨by omega, by omega, by omega, by omega, by omega⟩, fun q hq => h1 _ (Stp.new hq) Sub.refl (E1.new hq) _ ?_⟩
        have e : rgV 0 j = (List.range j.toNat).map fun i => V.int (0 + (i : Nat)) := by unfold rgV; rw [Int.sub_zero]
        exact rep_new hq (E1.fresh hq).1 (by rw [e]; exact iota_rep _ _)
      · rw [if_neg hj] at h1; exact h1.elim
    | _ => exact h1.elim
def tyVal (K : PySem.W.Frag) : D → Value
  | .non => .type "NoneType"
  | .bl _ => .type "bool"
  | .int _ => .type "int"
  | .str _ => .type "str"
  | .lst _ => .type "list"
  | .tup _ => .type "tuple"
  | .obj C _ _ => .ref (clsAt K C)
  | .raw _ => .none
theorem is_ty {K : PySem.W.Frag} {cs : List Str} (hc : ∀ C, C ∈ cs → IsC K C) {H : Hp} {M : AS} {d : D} {v : V} (r : RepT K H M d v) (k : knownB cs d = true) : TyX K H v (tyVal K d) := by
  cases d with
  | non => rw [r.non]; exact .base .non
  | bl b => rw [r.bl]; exact .base (.bl b)
  | int i => rw [r.int]; exact .base (.int i)
  | str i => rw [r.str]; exact .base (.str i)
  | lst ds =>
    obtain ⟨a, xs, rfl, h, _⟩ := r
    rcases h with (h | ⟨o, h⟩) | ⟨o, its, n, h, hc, _⟩
    · exact .base (.lst h)
    · exact .base (.frz h)
    · exact .kList h hc
  | tup ds =>
    obtain ⟨a, xs, rfl, h, _⟩ := r
    rcases h with h | ⟨o, h⟩
    · exact .base (.tup h)
    · exact .fTuple h
  | obj C ns ds =>
    have r' : Rep K H M (.obj C ns ds) v := r
    unfold Rep at r'
    obtain ⟨a, dx, xs, rfl, _, h, _⟩ := r'
    have hC : C ∈ cs := by
      unfold knownB at k
      simpa using k
    have I := hc C hC
    exact .base (.ins h I.cl I.ha I.hn I.ht I.hm)
  | raw w => cases k
theorem is_kit {K : PySem.W.Frag} {cs : List Str} {d : D} (k : knownB cs d = true) {T : Ty} {u : Value} (h : IsK K cs T u) : PySem.W.kitOne K (tyVal K d) u = some (tyD T d) := by
  cases d with
  | non => exact h.n
  | bl b => exact h.b.trans (by cases T <;> rfl)
  | int i => exact h.i.trans (by cases T <;> rfl)
  | str i => exact h.s.trans (by cases T <;> rfl)
  | lst ds => exact h.l.trans (by cases T <;> rfl)
  | tup ds => exact h.t.trans (by cases T <;> rfl)
  | obj C ns ds =>
    have hC : C ∈ cs := by
      unfold knownB at k
      simpa using k
    exact (h.c C hC).trans (by cases T <;> rfl)
  | raw w => cases k
theorem e_isin2 {a c1 c2 : Expr} {a' : IR} {T1 T2 : Ty} {v1 v2 : V} {u1 u2 : Value} {k : Nat} {p pos tp : Pos} (hc : ∀ C, C ∈ G.cls → IsC X.K C) (hK1 : IsK X.K G.cls T1 u1) (hK2 : IsK X.K G.cls T2 u2) (hv1 : ClsV v1 u1) (hv2 : ClsV v2 u2) (ha : PE X a (tI G W X.K a'))
    (h1 : PE X c1 (tC v1)) (h2 : PE X c2 (tC v2)) (hg : Gl X "isinstance") (hm : X.mg "isinstance" = none) (s1 : starB a = false) (s2 : starB c1 = false) (s3 : starB c2 = false) :
    PE X (.Call (.Name "isinstance" p) [a, .Tuple [c1, c2] k tp] [] pos) (tI G W X.K (.isin a' [T1, T2])) :=
  PE.by_ (pe_callB call_isiT hg hm (by decide +kernel) (pa_cons ha (pa_cons (pe_tup (pa_cons h1 (pa_cons h2 pa_nil (star_cons s3)) (star_cons s2))) pa_nil (star_cons rfl)) (star_cons s1)) (by decide) (by decide) (star_cons s1) (star_none rfl)) fun σ H Q q => by
    obtain ⟨H0, M0, A, env, E, q⟩ := q
    rw [ev] at q
    refine ⟨H0, M0, A, env, E, (Sat.bind q).mono fun o e1 H1 _ s1 u1 E1 h1 x hx => ?_⟩
    cases e : rdO e1 o with
    | none => rw [e] at h1; exact h1.elim
    | some d =>
      rw [e] at h1
      dsimp only at h1
      by_cases hk : knownB G.cls d = true
      · rw [if_pos hk] at h1
        have hs : sizeLine = 16777216 := sizeLine_eq
        refine ⟨by rw [hs]; show 2 ≤ 16777216; decide, fun t ht => ?_⟩
        have st : Stp NoA H1 (upd H1 t (.tup [v1, v2])) := Stp.new ht
        have hx2 := hx.hold E1.aM st.no Sub.refl
        refine ⟨x, t, [v1, v2], tyVal X.K d, [_, _], tyD T1 d || tyD T2 d, rfl, upd_same, .cons hv1 (.cons hv2 .nil), is_ty hc (hx2.rdT (E1.keep st) e) hk, ?_, ?_⟩
        · unfold PySem.W.kitAny
          rw [is_kit hk hK1]
          cases e1 : tyD T1 d with
          | true => rfl
          | false =>
            unfold PySem.W.kitAny
            dsimp only
            rw [is_kit hk hK2]
            cases e2 : tyD T2 d with
            | true => rfl
            | false => rfl
        · have h2 := h1 _ st.no Sub.refl (E1.keep st) (.bl ([T1, T2].any fun T => tyD T d)) (show Rep X.K (upd H1 t (HO.tup [v1, v2])) (MM M0 e1 σ) (.bl _) (.bl _) from rep_bl _)
          simpa using h2
      · rw [if_neg hk] at h1; exact h1.elim
end
end Mp
set_option maxHeartbeats 4000000
namespace Mp
open PySem L2
variable [TabsW] [GdW]
section
variable {K : PySem.W.Frag} {H0 H H' : Hp} {M0 A : AS} {env env' : Env} {σ : L2.St}
theorem EnvR.park (E : EnvR K H0 M0 A env σ H) {i : Nat} {ds : List D} {a : Addr} (hc : env[i]? = some (some (Cell.own ds))) (ha : σ[i]? = some (some (V.ref a))) :
    EnvR K H0 (fun b => M0 b ∨ b = a) A (env.set i none) σ H ∧ (∀ b, MutAt (env.set i none) σ b → MutAt env σ b) ∧ ¬ MutAt (env.set i none) σ a ∧ ∀ b, MM (fun b => M0 b ∨ b = a) (env.set i none) σ b → MM M0 env σ b := by
  have hi : i < env.length := (List.getElem?_eq_some_iff.mp hc).1
  obtain ⟨a', xs, g1, g2, g3, g4, g5⟩ := E.own i ds hc
  rw [ha] at g1; cases g1
  have other : ∀ {j c}, (env.set i none)[j]? = some (some c) → i ≠ j ∧ env[j]? = some (some c) := fun {j c} e1 => by
    by_cases hj : i = j
    · subst hj; rw [List.getElem?_set_self hi] at e1; cases e1
    · rw [List.getElem?_set_ne hj] at e1; exact ⟨hj, e1⟩
  have mutI : ∀ b, MutAt (env.set i none) σ b → MutAt env σ b := fun b ⟨j, es, e1, e2⟩ => ⟨j, es, (other e1).2, e2⟩
  have nm : ¬ MutAt (env.set i none) σ a := fun ⟨j, es, e1, e2⟩ => (other e1).1 (E.inj i j a ds es hc (other e1).2 ha e2)
  have subM : ∀ b, MM (fun b => M0 b ∨ b = a) (env.set i none) σ b → MM M0 env σ b := fun b z => by
    rcases z with (z | z) | z
    · exact .inl z
    · exact .inr ⟨i, ds, hc, by rw [z]; exact ha⟩
    · exact .inr (mutI b z)
  refine ⟨⟨by rw [List.length_set]; exact E.len, E.old, E.alive, E.tb, fun b hb => ?_, fun b hb => .inl (E.aM b hb), E.a1, fun j d e1 => ?_, fun j es e1 => ?_, fun j es e1 => ?_, fun j k b es fs e1 e2 => E.inj j k b es fs (other e1).2 (other e2).2, fun j k es fs e1 e2 => E.io1 j k es fs (other e1).2 (other e2).2, fun j C ns es e1 => E.slf j C ns es (other e1).2⟩, mutI, nm, subM⟩
  · rcases hb with hb | hb
    · exact E.m0 b hb
    · rw [hb]; exact Lv.lst g2
  · obtain ⟨v, a1, a2⟩ := E.dat j d (other e1).2
    exact ⟨v, a1, Rep.stp Stp.refl subM d v a2⟩
  · obtain ⟨b, zs, a1, a2, a3, a4, a5⟩ := E.own j es (other e1).2
    refine ⟨b, zs, a1, a2, RepL.stp Stp.refl subM es zs a3, fun z => ?_, a5⟩
    rcases z with z | z
    · exact a4 z
    · subst z
      exact nm ⟨j, es, e1, a1⟩
  · obtain ⟨b, zs, a1, a2, a3, a4⟩ := E.io j es (other e1).2
    exact ⟨b, zs, a1, a2, a3, RepL.stp Stp.refl subM es zs a4⟩
theorem EnvR.unpark {a : Addr} {ys : List V} {ds : List D} {i : Nat} (E : EnvR K H0 (fun b => M0 b ∨ b = a) A env σ H) (hc : env[i]? = some none) (ha : σ[i]? = some (some (V.ref a))) (aM : ∀ b, A b → M0 b) (h' : H a = some (.lst ys)) (n1 : ¬ M0 a) (n2 : ¬ Lv H0 a) (nm : ¬ MutAt env σ a)
    (r : RepL K H (MM (fun b => M0 b ∨ b = a) env σ) ds ys) : EnvR K H0 M0 A (env.set i (some (.own ds))) σ H ∧ (∀ b, MutAt (env.set i (some (.own ds))) σ b → MutAt env σ b ∨ b = a) ∧ ∀ b, MM M0 (env.set i (some (.own ds))) σ b → MM (fun b => M0 b ∨ b = a) env σ b := by
  have hi : i < env.length := (List.getElem?_eq_some_iff.mp hc).1
  have other : ∀ {j c}, (env.set i (some (Cell.own ds)))[j]? = some (some c) → (i = j ∧ c = .own ds) ∨ (i ≠ j ∧ env[j]? = some (some c)) := fun {j c} e1 => by
    by_cases hj : i = j
    · subst hj; rw [List.getElem?_set_self hi] at e1; cases e1; exact .inl ⟨rfl, rfl⟩
    · rw [List.getElem?_set_ne hj] at e1; exact .inr ⟨hj, e1⟩
  have mutI : ∀ b, MutAt (env.set i (some (Cell.own ds))) σ b → MutAt env σ b ∨ b = a := fun b ⟨j, es, e1, e2⟩ => by
    rcases other e1 with ⟨rfl, _⟩ | ⟨_, e1⟩
    · rw [ha] at e2; cases e2; exact .inr rfl
    · exact .inl ⟨j, es, e1, e2⟩
  have subM : ∀ b, MM M0 (env.set i (some (Cell.own ds))) σ b → MM (fun b => M0 b ∨ b = a) env σ b := fun b z => by
    rcases z with z | z
    · exact .inl (.inl z)
    · rcases mutI b z with q | q
      · exact .inr q
      · exact .inl (.inr q)
  refine ⟨⟨by rw [List.length_set]; exact E.len, E.old, E.alive, E.tb, fun b hb => E.m0 b (.inl hb), aM, E.a1, fun j d e1 => ?_, fun j es e1 => ?_, fun j es e1 => ?_, fun j k b es fs e1 e2 e3 e4 => ?_, fun j k es fs e1 e2 => ?_, fun j C ns es e1 => ?_⟩, mutI, subM⟩
  · rcases other e1 with ⟨rfl, e⟩ | ⟨_, e1⟩
    · cases e
    · obtain ⟨v, a1, a2⟩ := E.dat j d e1
      exact ⟨v, a1, Rep.stp Stp.refl subM d v a2⟩
  · rcases other e1 with ⟨rfl, e⟩ | ⟨_, e1⟩
    · cases e
      exact ⟨a, ys, ha, h', RepL.stp Stp.refl subM ds ys r, n1, n2⟩
    · obtain ⟨b, zs, a1, a2, a3, a4, a5⟩ := E.own j es e1
      exact ⟨b, zs, a1, a2, RepL.stp Stp.refl subM es zs a3, fun z => a4 (.inl z), a5⟩
  · rcases other e1 with ⟨rfl, e⟩ | ⟨_, e1⟩
    · cases e
    · obtain ⟨b, zs, a1, a2, a3, a4⟩ := E.io j es e1
      exact ⟨b, zs, a1, a2, a3, RepL.stp Stp.refl subM es zs a4⟩
  · rcases other e1 with ⟨rfl, _⟩ | ⟨_, e1⟩
    · rw [ha] at e3; cases e3
      rcases other e2 with ⟨rfl, _⟩ | ⟨_, e2⟩
      · rfl
      · exact (nm ⟨k, fs, e2, e4⟩).elim
    · rcases other e2 with ⟨rfl, _⟩ | ⟨_, e2⟩
      · rw [ha] at e4; cases e4
        exact (nm ⟨j, es, e1, e3⟩).elim
      · exact E.inj j k b es fs e1 e2 e3 e4
  · rcases other e1 with ⟨rfl, e⟩ | ⟨_, e1⟩
    · cases e
    · rcases other e2 with ⟨rfl, e⟩ | ⟨_, e2⟩
      · cases e
      · exact E.io1 j k es fs e1 e2
  · rcases other e1 with ⟨rfl, e⟩ | ⟨_, e1⟩
    · cases e
    · exact E.slf j C ns es e1
theorem goes_list' {M S : AS} {H1 : Hp} {a : Addr} {xs : List V} {ds : List D} (hS : ∀ x, S x → M x) (ns : ¬ S a) (h : Rd H1 a (.lst xs)) (r : RepL K H1 M ds xs) : Goes K M S H1 (Itl K a) ds := by
  refine ⟨fun H => SqL K H a xs, YAt xs, by rw [r.length]; exact walk_list, fun H' s => Rd.l (Rd.stp s ns nt_lst h), fun i H x H' M' hi s hM y => ?_⟩
  obtain ⟨rfl, e⟩ := y
  obtain ⟨d, d1, d2⟩ := r.get' e
  exact ⟨Stp.refl, d, d1, item_on hS s hM d2⟩
end
section
variable {X : Cx} {G : Ctx} {W : WX}
theorem ev_lcf {tg : Tgt} {i : Nat} {t : Option IR} {e : IR} {own : List Nat} {env : Env} : ev G (.lcf tg i t e own) env = match env[i]? with
    | some (some (.own ds)) => if ds.length ≤ BIG ∧ own.all (hideB (env.set i none)) = true ∧ (tgOwn tg).all (fun i => own.contains i) = true then
        (noExc (lcLoop own tg (tsF G t) (fun x => (ev G e x).take) ds (env.set i none))).bind fun xs e2 => (match (backE (env.set i none) e2 own)[i]? with
            | some none => .ok (.val (.lst xs)) ((backE (env.set i none) e2 own).set i (some (.own ds)))
            | _ => .bad) else .bad
    | _ => .bad := by
  cases t <;> (rw [ev.eq_def]; rfl)
theorem lcf_imp {K : PySem.W.Frag} {tg : Tgt} {i : Nat} {t : Option IR} {e : IR} {own : List Nat} {σ : L2.St} {H : Hp} {Q : VK} (q : tI G W K (.lcf tg i t e own) σ H Q) : tLc (iSeq K (tVar i)) (gT K tg) (tIf' G wNo K t) (tI G wNo K e) own σ H Q := by
  obtain ⟨H0, M0, A, env, E, q⟩ := q
  rw [ev_lcf] at q
  cases hi : env[i]? with
  | none => rw [hi] at q; exact q.elim
  | some o =>
    rw [hi] at q
    cases o with
    | none => exact q.elim
    | some c =>
      cases c with
      | own ds =>
        dsimp only at q
        by_cases hcn : ds.length ≤ BIG ∧ own.all (hideB (env.set i none)) = true ∧ (tgOwn tg).all (fun i => own.contains i) = true
        · rw [if_pos hcn] at q
          obtain ⟨a, ys, g1, g2, g3, g4, g5⟩ := E.own i ds hi
          obtain ⟨E1, m1, nm, sM⟩ := E.park hi g1
          have sM' : ∀ b, MM M0 env σ b → MM (fun b => M0 b ∨ b = a) (env.set i none) σ b := fun b z => by
            rcases z with z | ⟨j, es, e1, e2⟩
            · exact .inl (.inl z)
            · by_cases hj : i = j
              · subst hj; rw [g1] at e2; cases e2; exact .inl (.inr rfl)
              · exact .inr ⟨j, es, by rw [List.getElem?_set_ne hj]; exact e1, e2⟩
          have nW : ¬ WW A (env.set i none) σ a := fun z => z.elim (fun q => g4 (E.aM a q)) nm
          have rl : RepL K H (MM (fun b => M0 b ∨ b = a) (env.set i none) σ) ds ys := RepL.stp Stp.refl sM ds ys g3
          cases hr : lcLoop own tg (tsF G t) (fun x => (ev G e x).take) ds (env.set i none) with
          | bad => rw [hr] at q; exact q.elim
          | exc C f d e2 => rw [hr] at q; exact q.elim
          | ok xs e2 =>
            rw [hr] at q
            have q : Sat K H0 M0 A W (match (backE (env.set i none) e2 own)[i]? with
                | some none => R.ok (.val (.lst xs)) ((backE (env.set i none) e2 own).set i (some (.own ds)))
                | _ => .bad) env σ H (fun o e1 H1 => ∀ v, OpdR K M0 e1 σ H1 o v → Q v H1) := q
            refine ⟨_, g1, a, rfl, .inl ⟨⟨ys, .inl (.inl g2)⟩, fun Dl hD => ?_⟩⟩
            refine lc_reads E1 (fun j hj => by simpa using (List.all_eq_true.mp hcn.2.2) j hj) hcn.2.1 (goes_list' (WW.sub E1.aM) nW (Rd.of g2) rl) hD hcn.1 hr fun H' st sb E' r => ?_
            cases hb : (backE (env.set i none) e2 own)[i]? with
            | none => rw [hb] at q; exact q.elim
            | some o =>
              rw [hb] at q
              cases o with
              | some c => exact q.elim
              | none =>
                have h' : H' a = some (.lst ys) := st.st a _ g2 nW nt_lst
                have nm' : ¬ MutAt (backE (env.set i none) e2 own) σ a := fun z => nm (sb.own a z)
                have subB : ∀ b, MM (fun b => M0 b ∨ b = a) (backE (env.set i none) e2 own) σ b → MM (fun b => M0 b ∨ b = a) (env.set i none) σ b := fun b z => z.elim .inl fun q => .inr (sb.own b q)
                have rl' : RepL K H' (MM (fun b => M0 b ∨ b = a) (backE (env.set i none) e2 own) σ) ds ys := RepL.stp (st.weak (WW.sub E1.aM)) subB ds ys rl
                obtain ⟨E2, m2, s2⟩ := E'.unpark hb g1 E.aM h' g4 g5 nm' rl'
                have q : ∀ H', Stp (WW A env σ) H H' → Sub σ env ((backE (env.set i none) e2 own).set i (some (.own ds))) → EnvR K H0 M0 A ((backE (env.set i none) e2 own).set i (some (.own ds))) σ H' → ∀ v, OpdR K M0 ((backE (env.set i none) e2 own).set i (some (.own ds))) σ H' (.val (.lst xs)) v → Q v H' := q
                have hl : i < (backE (env.set i none) e2 own).length := (List.getElem?_eq_some_iff.mp hb).1
                refine q H' (st.weak fun b z => z.elim .inl fun q => .inr (m1 b q)) ⟨fun b z => ?_, fun j c h => ?_, fun j es h => ?_, ?_⟩ E2 (.ref Dl) (Rep.stp Stp.refl s2 _ _ r)
                · rcases m2 b z with z | z
                  · exact m1 b (sb.own b z)
                  · rw [z]; exact ⟨i, ds, hi, g1⟩
                · by_cases hj : i = j
                  · subst hj; exact ⟨_, List.getElem?_set_self hl⟩
                  · obtain ⟨c', h'⟩ := sb.there j c (by rw [List.getElem?_set_ne hj]; exact h)
                    exact ⟨c', by rw [List.getElem?_set_ne hj]; exact h'⟩
                · by_cases hj : i = j
                  · subst hj; rw [List.getElem?_set_self hl] at h; cases h
                  · rw [List.getElem?_set_ne hj] at h
                    obtain ⟨es', h'⟩ := sb.io j es h
                    exact ⟨es', by rw [List.getElem?_set_ne hj] at h'; exact h'⟩
                · rw [List.length_set, sb.len, List.length_set]
        · rw [if_neg hcn] at q; exact q.elim
      | _ => exact q.elim
theorem e_lcf {elt tgE : Expr} {ifs : List Expr} {scope : Scope} {own : List (Str × Nat)} {pos np : Pos} {x : Str} {i : Nat} {tg : Tgt} {t : Option IR} {e : IR} (hc : X.calm = true) (hN : X.N.Nodup) (hx : X.N[i]? = some x) (hv : Vis X.env.scope x) (hd : (x == ("__debug__" : Str)) = false) (hcd : (x == ("__classdict__" : Str)) = false) (ok : BlkOk X.N X.env.scope scope own)
    (hg : ∀ (s : Shared) (H : Hp) (C : Addr) (cl : List (Str × Addr)) (fp : List Addr), PG (X.blk s H scope (compEnvC scope cl C X.env) fp) tgE (gT X.K tg)) (ht : ∀ (s : Shared) (H : Hp) (C : Addr) (cl : List (Str × Addr)) (fp : List Addr), PTs (X.blk s H scope (compEnvC scope cl C X.env) fp) ifs (tIf' G wNo X.K t))
    (he : ∀ (s : Shared) (H : Hp) (C : Addr) (cl : List (Str × Addr)) (fp : List Addr), PE (X.blk s H scope (compEnvC scope cl C X.env) fp) elt (tI G wNo X.K e)) :
    PE X (.ListComp elt [⟨tgE, .Name x np, ifs, 0⟩] scope pos) (tI G W X.K (.lcf tg i t e (own.map (·.2)))) := PE.by_ (pe_lc hc hN (pi_seq (pe_var hx hv hd hcd)) ok hg ht he (fun _ => rfl)) fun σ H Q q => lcf_imp q
end
end Mp
set_option maxHeartbeats 4000000
namespace Mp
open PySem L2 PyProof.Rows
variable [TabsW] [GdW]
theorem list_mulW (l : Addr) (items : Array Value) (n : Nat) (dd : Option Addr) (sl : Array (Option Value)) (x : Int) (u : Tok) (hc0 : ¬(!Builtin.List.listFitsIndex x) = true) (hc1 : ¬items.size * x.toNat > (2 ^ 63 - 1) / 8) (hc2 : ¬Builtin.List.listTooLong (items.size * x.toNat) = true) :
    Meets (Builtin.«list.__mul__» ⟨[.ref l, .int x u], []⟩) (fun _ R s => s.heap.get? l = some { cls := .type "list", dict := dd, data := .seq items n, slots := sl } ∧ R (.ok (.ret (Value.ref s.heap.objs.size))) { s with heap := s.heap.push { cls := Value.type "list", data := Data.seq (List.foldl (fun x1 x2 => x1 ++ x2) #[] (List.replicate (if items.isEmpty = true then 0 else x.toNat) items)) }, toks := s.toks }) :=
  .of_wp fun prog w A R s h => by
    obtain ⟨hp, g, d, tk, os⟩ := s; obtain ⟨hl, h⟩ := h
    have hsz := AutoListH.joined_fits hc2
    wp_walk using wpAny_loadPart' hl; refine wpAny_ite_false (decide_eq_false (Nat.not_lt.mpr hsz)) ?_; wp_walk using wpAny_loadPart' hl; exact ⟨_, rfl, h⟩
theorem int_rmul_listW (a : Int) (t : Tok) (l : Addr) (items : Array Value) (n : Nat) (dd : Option Addr) (sl : Array (Option Value)) :
    Meets (Builtin.«int.__rmul__» ⟨[.int a t, .ref l], []⟩) (fun _ R s => s.heap.get? l = some { cls := .type "list", dict := dd, data := .seq items n, slots := sl } ∧ R (.ok (.ret Value.notImplemented)) s) :=
  .of_wp fun prog w A R s h => by obtain ⟨hp, g, d, tk, os⟩ := s; obtain ⟨hl, h⟩ := h; wp_walk using wpAny_loadPart' hl; exact ⟨_, rfl, h⟩
theorem foldl_rep (its : List Value) : ∀ (n : Nat) (acc : Array Value), List.foldl (fun x1 x2 : Array Value => x1 ++ x2) acc (List.replicate n its.toArray) = acc ++ ((List.replicate n its).flatten).toArray
  | 0, acc => by simp
  | n + 1, acc => by
    rw [List.replicate_succ, List.foldl_cons, foldl_rep its n, List.replicate_succ, List.flatten_cons]
    simp
theorem rep_eq (its : List Value) (n : Nat) : List.foldl (fun x1 x2 : Array Value => x1 ++ x2) #[] (List.replicate (if its.toArray.isEmpty = true then 0 else n) its.toArray) = ((List.replicate n its).flatten).toArray := by
  rw [foldl_rep]
  cases its with
  | nil => simp
  | cons a l => simp
theorem vals_rep {xs : List V} {us : List Value} (h : Vals xs us) : ∀ n : Nat, Vals (List.replicate n xs).flatten (List.replicate n us).flatten
  | 0 => .nil
  | n + 1 => by
    rw [List.replicate_succ, List.replicate_succ, List.flatten_cons, List.flatten_cons]
    exact h.append (vals_rep h n)
/-- a list so many times -/
def rRepR (K : PySem.W.Frag) : V → V → Hp → VK → Prop := fun x y H Q => ∃ (l : Addr) (xs : List V) (j : Int), x = .ref l ∧ y = .int j ∧ SqL K H l xs ∧ 0 ≤ j ∧ j ≤ 100 ∧ xs.length ≤ 100 ∧ ∀ p, H p = none → Q (.ref p) (upd H p (.lst (List.replicate j.toNat xs).flatten))
theorem op_repR {X : Cx} : OpR X (binaryOp .Mult) (rRepR X.K) := by
  intro pins s σ H x y v u Q I rx ry h
  obtain ⟨l, xs, j, rfl, rfl, hH, h0, h1, hz, q⟩ := h
  cases rx
  obtain ⟨t, rfl⟩ := (show ∃ t, u = Value.int j t from ry)
  obtain ⟨its, r, ⟨⟨cls, dd, data, sl⟩, n, ho, hc, hd0, hd⟩, hz1⟩ := I.list hH
  simp only at hc hd
  subst hc hd
  have l1 := r.length
  have hs : sizeLine = 16777216 := sizeLine_eq
  have hm : its.toArray.size * j.toNat ≤ 10000 := by
    rw [List.size_toArray, ← l1]
    exact Nat.le_trans (Nat.mul_le_mul hz (show j.toNat ≤ 100 by omega)) (by decide)
  have hm2 : its.length * j.toNat ≤ 10000 := by rw [List.size_toArray] at hm; exact hm
  have hlen : ((List.replicate j.toNat xs).flatten).length ≤ 10000 := by
    rw [List.length_flatten]
    simp only [List.map_replicate, List.sum_replicate_nat]
    rw [List.size_toArray, ← l1, Nat.mul_comm] at hm
    exact hm
  refine wpAny_binaryOp_repeat_ref (T := "list") (U := "int") (by decide) ⟨_, ho, rfl⟩ (fun s' => typeIs_int s' j t) noFill_list_mul F.fills_int_mul F.slot_int_rmul repeat_list F.slot_int_index.lookup
    (call_meets F.slot_int_rmul (typeIs_int s j t) F.entry_int_rmul (F.args_int_rmul_2 _ _) (int_rmul_listW j t l its.toArray n dd sl)
      ⟨ho, rfl, ⟨_, ho, rfl⟩, call_meets F.slot_list_mul ⟨_, ho, rfl⟩ F.entry_list_mul (F.args_list_mul_2 _ _)
        (list_mulW l its.toArray n dd sl j t (by simp [Builtin.List.listFitsIndex]; omega) (by omega) (by simp only [Builtin.List.listTooLong]; simp; have := hm2; omega))
        ⟨ho, ?_⟩⟩)
  rw [rep_eq]
  exact ⟨.ref _, _, I.lnew (t' := s.toks) (vals_rep r j.toNat) (by omega), rfl, q _ I.fresh⟩
section
variable {X : Cx} {G : Ctx} {W : WX} {a b c : Expr} {a' b' c' : IR} {pos p : Pos} {j : Nat}
theorem xi {n : Int} : PE X (.Constant (.int n) j pos) (tI G W X.K (.c (.int n))) := e_c pe_int fun _ _ => rep_int _
theorem xb {n : Bool} : PE X (.Constant (.bool n) j pos) (tI G W X.K (.c (.bl n))) := e_c pe_bl fun _ _ => rep_bl _
theorem xn : PE X (.Constant .none j pos) (tI G W X.K (.c .non)) := e_c pe_non fun _ _ => rep_non
theorem xs {n : Str} : PE X (.Constant (.str n) j pos) (tI G W X.K (.c (.str n))) := e_c pe_str fun _ _ => rep_str _
theorem xg {x : Str} {n : Int} {t : Nat} (hm : X.mg x = some (.int n t)) (hg : Gl X x) (hd : (x == ("__debug__" : Str)) = false) : PE X (.Name x pos) (tI G W X.K (.c (.int n))) := e_c (v := .int n) (pe_glob hg hm ⟨_, rfl⟩ hd) fun _ _ => rep_int _
theorem RepL.rep {K : PySem.W.Frag} {H : Hp} {M : AS} {ds : List D} {xs : List V} (h : RepL K H M ds xs) : ∀ n : Nat, RepL K H M (List.replicate n ds).flatten (List.replicate n xs).flatten
  | 0 => RepL.nil
  | n + 1 => by
    rw [List.replicate_succ, List.replicate_succ, List.flatten_cons, List.flatten_cons]
    exact h.append (RepL.rep h n)
theorem s_mul' {K : PySem.W.Frag} : OpS K (rOr rMulU (rRepR K)) mulD := by
  intro M x y H p q z Q rp rq hM e k
  cases p with
  | int i =>
    cases q with
    | int j => exact .inl (s_mul M x y H (.int i) (.int j) z Q rp rq hM e k)
    | _ => cases e
  | lst ds =>
    cases q with
    | int j =>
      have e' : (if 0 ≤ j ∧ j ≤ 100 ∧ ds.length ≤ 100 then some (D.lst (List.replicate j.toNat ds).flatten) else none) = some z := e
      by_cases hc : 0 ≤ j ∧ j ≤ 100 ∧ ds.length ≤ 100
      · rw [if_pos hc] at e'
        cases e'
        obtain ⟨la, xs, rfl, h1, r1⟩ := rp
        rw [rq.int]
        exact .inr ⟨la, xs, j, rfl, rfl, h1, hc.1, hc.2.1, by rw [← r1.length]; exact hc.2.2, fun p hp => k _ _ (Stp.new hp) (rep_new hp (hM p hp) (r1.rep j.toNat))⟩
      · rw [if_neg hc] at e'; cases e'
    | _ => cases e
  | _ => cases e
theorem x_add (ha : PE X a (tI G W X.K a')) (hb : PE X b (tI G W X.K b')) : PE X (.BinOp a .Add b pos) (tI G W X.K (.bin .add a' b')) := e_bin op_addU s_add ha hb
theorem x_sub (ha : PE X a (tI G W X.K a')) (hb : PE X b (tI G W X.K b')) : PE X (.BinOp a .Sub b pos) (tI G W X.K (.bin .sub a' b')) := e_bin op_sub s_sub ha hb
theorem x_mul (ha : PE X a (tI G W X.K a')) (hb : PE X b (tI G W X.K b')) : PE X (.BinOp a .Mult b pos) (tI G W X.K (.bin .mul a' b')) := e_bin (OpR.or op_mul op_repR) s_mul' ha hb
theorem x_fdiv (ha : PE X a (tI G W X.K a')) (hb : PE X b (tI G W X.K b')) : PE X (.BinOp a .FloorDiv b pos) (tI G W X.K (.bin .fdiv a' b')) := e_bin op_fdiv s_fdiv ha hb
theorem x_mod (ha : PE X a (tI G W X.K a')) (hb : PE X b (tI G W X.K b')) : PE X (.BinOp a .Mod b pos) (tI G W X.K (.bin .mod a' b')) := e_bin op_mod s_mod ha hb
theorem x_pow (ha : PE X a (tI G W X.K a')) (hb : PE X b (tI G W X.K b')) : PE X (.BinOp a .Pow b pos) (tI G W X.K (.bin .pow a' b')) := e_bin op_pow s_pow ha hb
theorem x_lt (ha : PE X a (tI G W X.K a')) (hb : PE X b (tI G W X.K b')) : PE X (.Compare a [.Lt] [b] pos) (tI G W X.K (.cmp .lt a' b')) := e_cmp op_lt s_lt ha hb (nomark _)
theorem x_le (ha : PE X a (tI G W X.K a')) (hb : PE X b (tI G W X.K b')) : PE X (.Compare a [.LtE] [b] pos) (tI G W X.K (.cmp .le a' b')) := e_cmp op_le s_le ha hb (nomark _)
theorem x_ge (ha : PE X a (tI G W X.K a')) (hb : PE X b (tI G W X.K b')) : PE X (.Compare a [.GtE] [b] pos) (tI G W X.K (.cmp .ge a' b')) := e_cmp op_ge s_ge ha hb (nomark _)
theorem x_eq (hu : X.A.units + 64 < cLine) (ha : PE X a (tI G W X.K a')) (hb : PE X b (tI G W X.K b')) : PE X (.Compare a [.Eq] [b] pos) (tI G W X.K (.cmp .eq a' b')) := e_cmp (op_eqD hu) s_eq ha hb (nomark _)
theorem x_is (ha : PE X a (tI G W X.K a')) (hb : PE X b (tI G W X.K b')) : PE X (.Compare a [.Is] [b] pos) (tI G W X.K (.cmp .is_ a' b')) := e_cmp (OpR.or op_isN op_is_bl) s_is ha hb (nomark _)
theorem y_lt (ha : PE X a (tI G W X.K a')) (hb : PE X b (tI G W X.K b')) : PT X (.Compare a [.Lt] [b] pos) (tIt G W X.K (.cmp .lt a' b')) := t_cmp op_lt s_lt ha hb (nomark _)
theorem y_le (ha : PE X a (tI G W X.K a')) (hb : PE X b (tI G W X.K b')) : PT X (.Compare a [.LtE] [b] pos) (tIt G W X.K (.cmp .le a' b')) := t_cmp op_le s_le ha hb (nomark _)
theorem y_gt (ha : PE X a (tI G W X.K a')) (hb : PE X b (tI G W X.K b')) : PT X (.Compare a [.Gt] [b] pos) (tIt G W X.K (.cmp .gt a' b')) := t_cmp op_gt s_gt ha hb (nomark _)
theorem y_ge (ha : PE X a (tI G W X.K a')) (hb : PE X b (tI G W X.K b')) : PT X (.Compare a [.GtE] [b] pos) (tIt G W X.K (.cmp .ge a' b')) := t_cmp op_ge s_ge ha hb (nomark _)
theorem y_eq (hu : X.A.units + 64 < cLine) (ha : PE X a (tI G W X.K a')) (hb : PE X b (tI G W X.K b')) : PT X (.Compare a [.Eq] [b] pos) (tIt G W X.K (.cmp .eq a' b')) := t_cmp (op_eqD hu) s_eq ha hb (nomark _)
theorem y_ne (hu : X.A.units + 64 < cLine) (ha : PE X a (tI G W X.K a')) (hb : PE X b (tI G W X.K b')) : PT X (.Compare a [.NotEq] [b] pos) (tIt G W X.K (.cmp .ne a' b')) := t_cmp (op_neD hu) s_ne ha hb (nomark _)
theorem y_is (ha : PE X a (tI G W X.K a')) (hb : PE X b (tI G W X.K b')) : PT X (.Compare a [.Is] [b] pos) (tIt G W X.K (.cmp .is_ a' b')) := t_cmp (OpR.or op_isN op_is_bl) s_is ha hb (nomark _)
theorem y_isnot (ha : PE X a (tI G W X.K a')) (hb : PE X b (tI G W X.K b')) : PT X (.Compare a [.IsNot] [b] pos) (tIt G W X.K (.cmp .isnot a' b')) := t_cmp (OpR.or op_notN op_isnot_bl) s_isnot ha hb (nomark _)
theorem any1 (h : starB a = false) : ([a] : List Expr).any starB = false := by rw [List.any_cons, h]; rfl
theorem any2 (h : starB a = false) (h2 : starB b = false) : ([a, b] : List Expr).any starB = false := by rw [List.any_cons, h, List.any_cons, h2]; rfl
theorem b_len (hm : X.mg "len" = none) (hg : Gl X "len") (ha : PE X a (tI G W X.K a')) (hs : starB a = false) : PE X (.Call (.Name "len" p) [a] [] pos) (tI G W X.K (.blt .len [a'])) := e_bltF call_len s_len hg hm (by decide +kernel) (ar_cons ha ar_nil hs) (any1 hs) (by decide) (by decide)
theorem b_int (hm : X.mg "int" = none) (hg : Gl X "int") (ha : PE X a (tI G W X.K a')) (hs : starB a = false) : PE X (.Call (.Name "int" p) [a] [] pos) (tI G W X.K (.blt .int [a'])) := e_bltT call_int1 s_int hg hm (by decide +kernel) (ar_cons ha ar_nil hs) (any1 hs) (by decide) (by decide)
theorem b_max (hc : X.calm = true) (hm : X.mg "max" = none) (hg : Gl X "max") (ha : PE X a (tI G W X.K a')) (hb : PE X b (tI G W X.K b')) (hs : starB a = false) (hs2 : starB b = false) : PE X (.Call (.Name "max" p) [a, b] [] pos) (tI G W X.K (.blt .max2 [a', b'])) := e_bltF (call_max2 hc) s_max2 hg hm (by decide +kernel) (ar_cons ha (ar_cons hb ar_nil hs2) hs) (any2 hs hs2) (by decide) (by decide)
theorem b_min (hc : X.calm = true) (hm : X.mg "min" = none) (hg : Gl X "min") (ha : PE X a (tI G W X.K a')) (hb : PE X b (tI G W X.K b')) (hs : starB a = false) (hs2 : starB b = false) : PE X (.Call (.Name "min" p) [a, b] [] pos) (tI G W X.K (.blt .min2 [a', b'])) := e_bltF (call_min2 hc) s_min2 hg hm (by decide +kernel) (ar_cons ha (ar_cons hb ar_nil hs2) hs) (any2 hs hs2) (by decide) (by decide)
theorem b_sorted (hm : X.mg "sorted" = none) (hg : Gl X "sorted") (ha : PE X a (tI G W X.K a')) (hs : starB a = false) : PE X (.Call (.Name "sorted" p) [a] [] pos) (tI G W X.K (.blt .sorted [a'])) := e_bltF cr_sortedI s_sorted hg hm (by decide +kernel) (ar_cons ha ar_nil hs) (any1 hs) (by decide) (by decide)
theorem b_list (hm : X.mg "list" = none) (hg : Gl X "list") (ha : PE X a (tI G W X.K a')) (hs : starB a = false) : PE X (.Call (.Name "list" p) [a] [] pos) (tI G W X.K (.blt .list [a'])) := e_bltT call_list_of s_list hg hm (by decide +kernel) (ar_cons ha ar_nil hs) (any1 hs) (by decide) (by decide)
theorem b_tuple (hm : X.mg "tuple" = none) (hg : Gl X "tuple") (ha : PE X a (tI G W X.K a')) (hs : starB a = false) : PE X (.Call (.Name "tuple" p) [a] [] pos) (tI G W X.K (.blt .tuple [a'])) := e_bltT call_tuple_of s_tuple hg hm (by decide +kernel) (ar_cons ha ar_nil hs) (any1 hs) (by decide) (by decide)
theorem b_all (hc : X.calm = true) (hm : X.mg "all" = none) (hg : Gl X "all") (ha : PE X a (tI G W X.K a')) (hs : starB a = false) : PE X (.Call (.Name "all" p) [a] [] pos) (tI G W X.K (.blt .all [a'])) := e_bltF (cr_all hc) s_all hg hm (by decide +kernel) (ar_cons ha ar_nil hs) (any1 hs) (by decide) (by decide)
theorem b_any (hc : X.calm = true) (hm : X.mg "any" = none) (hg : Gl X "any") (ha : PE X a (tI G W X.K a')) (hs : starB a = false) : PE X (.Call (.Name "any" p) [a] [] pos) (tI G W X.K (.blt .any [a'])) := e_bltF (cr_any hc) s_any hg hm (by decide +kernel) (ar_cons ha ar_nil hs) (any1 hs) (by decide) (by decide)
theorem hu64 {A : Around} {k : Nat} (hr : Room k A) : A.units + 64 < cLine := by have := hr.r.un; omega
/-- name = [.. for ..] -/
theorem st_lc {i : Nat} {s : Stmt} {tg : Tgt} {it : IT} {t : Option IR} {e : IR} {own : List Nat} (h : PS X s (tAsg (tLc (tIi G W X.K it) (gT X.K tg) (tIf' G wNo X.K t) (tI G wNo X.K e) own) (gName i))) : PS X s (tAsg (tI G W X.K (.lc tg it t e own)) (gT X.K (.name i))) := PS.by_ h fun D σ H q => lc_imp q
end
end Mp
set_option maxHeartbeats 4000000
set_option maxHeartbeats 4000000
namespace Mp
open PySem L2 PyProof.Rows
variable [TabsW] [GdW]
section
variable {X : Cx} {G : Ctx} {W : WX}
def tTl (G : Ctx) (W : WX) (K : PySem.W.Frag) : List (Str × IR) → TS
  | [] => tNext
  | (f, e) :: r => tSeq (sFld K (tVar 0) (tI G W K e) f) (tTl G W K r)
theorem tl_nil : PSs X [] (tTl G W X.K []) := pss_nil
theorem tl_cons {s : Stmt} {ss : List Stmt} {f : Str} {e : IR} {r : List (Str × IR)} (h : PS X s (sFld X.K (tVar 0) (tI G W X.K e) f)) (hr : PSs X ss (tTl G W X.K r)) : PSs X (s :: ss) (tTl G W X.K ((f, e) :: r)) := pss_cons h hr
/-- all the statements: the first ones, then the fields -/
inductive InitB (X : Cx) (G : Ctx) (W : WX) : List Stmt → List ST → List (Str × IR) → Prop where
  | last {ss : List Stmt} {r : List (Str × IR)} (h : PSs X ss (tTl G W X.K r)) : InitB X G W ss [] r
  | step {s : Stmt} {ss : List Stmt} {t : ST} {ts : List ST} {r : List (Str × IR)} (h : PS X s (tS G W X.K t)) (hr : InitB X G W ss ts r) : InitB X G W (s :: ss) (t :: ts) r
end
theorem putF_zip {f : Str} {v : V} : ∀ {ns : List Str} {xs : List V}, ns.length = xs.length → f ∉ ns → putF f v (ns.zip xs) = (ns ++ [f]).zip (xs ++ [v])
  | [], [], _, _ => rfl
  | [], _ :: _, h, _ => by simp at h
  | _ :: _, [], h, _ => by simp at h
  | n :: ns, x :: xs, h, hn => by
    simp only [List.mem_cons, not_or] at hn
    show putF f v ((n, x) :: ns.zip xs) = _
    unfold putF
    rw [if_neg (fun z => hn.1 z.symm), putF_zip (by simpa using h) hn.2]
    rfl
section
variable {K : PySem.W.Frag} {G : Ctx} {W : WX} {H0 : Hp} {M0 : AS} {o dx C : Addr} {σ : L2.St} {D : Ends}
theorem tl_run (hσ : σ[0]? = some (some (.ref o))) (cl : Cls K C) (ho : M0 o) (h0 : ¬ Lv H0 o) : ∀ (es : List (Str × IR)) (env : Env) (H : Hp) (ns : List Str) (xs : List V) (ds out : List Mp.D) (e' : Env), EnvR K H0 M0 NoA env σ H → H o = some (.ins C dx (ns.zip xs)) → ns.length = xs.length → xs.length + es.length < 900 →
    (ns ++ es.map (·.1)).Nodup → (∀ f, f ∈ es.map (·.1) → NoAttr K C f) → RepL K H (MM M0 env σ) ds xs → evs G (es.map (·.2)) env = .ok out e' →
    (∀ H' ys, Stp (fun a => MutAt env σ a ∨ a = o) H H' → H' o = some (.ins C dx ((ns ++ es.map (·.1)).zip ys)) → (ns ++ es.map (·.1)).length = ys.length → RepL K H' M0 (ds ++ out) ys → D.nx σ H') → tTl G W K es D σ H
  | [], env, H, ns, xs, ds, out, e', E, hH, hl, hn, nd, na, r, run, k => by
    rw [List.map_nil, evs] at run
    cases run
    refine k H xs Stp.refl (by simpa using hH) (by simpa using hl) ?_
    rw [List.append_nil]
    exact RepL.stp Stp.refl (fun _ z => .inl z) ds xs r
  | (f, e) :: es, env, H, ns, xs, ds, out, e', E, hH, hl, hn, nd, na, r, run, k => by
    rw [List.map_cons, evs] at run
    cases h1 : ev G e env with
    | bad => unfold R.take at run; rw [h1] at run; cases run
    | exc C' f' d e1 => unfold R.take at run; rw [h1] at run; cases run
    | ok op e1 =>
      unfold R.take at run
      rw [h1] at run
      have run : ((match takeO e1 op with
        | some (d, env') => R.ok d env'
        | none => .bad).bind fun d e1 => (evs G (List.map (fun p : Str × IR => p.2) es) e1).bind fun ds e2 => .ok (d :: ds) e2) = .ok out e' := run
      cases h2 : takeO e1 op with
      | none => rw [h2] at run; cases run
      | some p =>
        obtain ⟨d, e2⟩ := p
        rw [h2] at run
        have run : ((evs G (List.map (fun p : Str × IR => p.2) es) e2).bind fun ds e3 => R.ok (d :: ds) e3) = .ok out e' := run
        cases h3 : evs G (es.map (·.2)) e2 with
        | bad => rw [h3] at run; cases run
        | exc C' f' d e3 => rw [h3] at run; cases run
        | ok outs e3 =>
          rw [h3] at run
          cases run
          refine ⟨H0, M0, NoA, env, E, ?_⟩
          rw [h1]
          intro H1 s1 u1 E1 v hv
          obtain ⟨E2, rd, u2⟩ := E1.take hv h2
          have mE : ∀ {env : Env} {H : Hp}, EnvR K H0 M0 NoA env σ H → ¬ MutAt env σ o := fun {env H} E ⟨j, es, z1, z2⟩ => by
            obtain ⟨b, zs, b1, _, _, b4, _⟩ := E.own j es z1
            rw [z2] at b1; cases b1
            exact b4 ho
          have nW : ¬ WW NoA env σ o := fun z => z.elim id (mE E)
          have h1o : H1 o = some (.ins C dx (ns.zip xs)) := s1.st o _ hH nW nt_ins
          have hf : f ∉ ns := fun z => by
            rw [List.map_cons] at nd
            exact ((List.nodup_append.mp nd).2.2 f z f List.mem_cons_self) rfl
          refine ⟨_, hσ, o, C, dx, ns.zip xs, rfl, h1o, cl, na f List.mem_cons_self, ?_, ?_⟩
          · rw [List.length_zip]
            omega
          · rw [putF_zip hl hf]
            have E3 := E2.setM (o := HO.ins C dx ((ns ++ [f]).zip (xs ++ [v]))) (pl_ati h1o) ho id h0
            have st : Stp (MM M0 e2 σ) H1 (upd H1 o (.ins C dx ((ns ++ [f]).zip (xs ++ [v])))) := Stp.set (.inl ho) (pl_ati h1o)
            have rx1 : RepL K H1 (MM M0 e2 σ) ds xs := RepL.stp (s1.weak (WW.sub E.aM)) (fun a z => z.elim .inl fun q => .inr (u1.own a (u2.own a q))) ds xs r
            refine tl_run hσ cl ho h0 es e2 _ (ns ++ [f]) (xs ++ [v]) (ds ++ [d]) outs _ E3 upd_same (by simp [hl]) (by simp at hn ⊢; omega) (by simpa [List.append_assoc] using nd) (fun g hg => na g (List.mem_cons_of_mem _ hg))
              ((RepL.stp st (fun _ z => z) ds xs rx1).append (RepL.cons (Rep.stp st (fun _ z => z) d v rd) RepL.nil)) h3 fun H' ys s' a1 a2 a3 => ?_
            refine k H' ys ?_ (by simpa [List.append_assoc] using a1) (by simpa [List.append_assoc] using a2) (by simpa [List.append_assoc] using a3)
            refine ((s1.weak fun a z => ?_).trans (Stp.set (.inr rfl) (pl_ati h1o))).trans (s'.weak fun a z => ?_)
            · exact .inl (z.elim False.elim id)
            · exact z.elim (fun q => .inl (u1.own a (u2.own a q))) .inr
end
def startI (m : Nat) (v : V) (ds : List D) : Env := some (.dat (.raw v)) :: startE none m ds
/-- what an __init__ with these statements, then these fields, yields of ds: F says it -/
def InitF (G : Ctx) (m : Nat) (b : List ST) (es : List (Str × IR)) (F : List D → FR) : Prop := ∀ (v : V) (ds : List D), F ds = .bad ∨
  (∃ e out e', evSs G b (startI m v ds) = .nx e ∧ e[0]? = some (some (.dat (.raw v))) ∧ evs G (es.map (·.2)) e = .ok out e' ∧ F ds = .ok .non out) ∨ ∃ C f d e, evSs G b (startI m v ds) = .exc C f d e ∧ F ds = .exc C f d []
section
variable {X : Cx} {K : PySem.W.Frag} {G : Ctx} {W : WX}
/-- the whole body's reading -/
def tIb (G : Ctx) (W : WX) (K : PySem.W.Frag) : List ST → List (Str × IR) → TS
  | [], r => tTl G W K r
  | t :: ts, r => tSeq (tS G W K t) (tIb G W K ts r)
theorem InitB.pss {ss : List Stmt} {ts : List ST} {r : List (Str × IR)} (h : InitB X G W ss ts r) : PSs X ss (tIb G W X.K ts r) := by
  induction h with
  | last h => exact h
  | step h _ ih => exact pss_cons h ih
theorem ib_read {r : List (Str × IR)} {H0 : Hp} {M0 : AS} {D : Ends} : ∀ (ts : List ST) (env : Env) (σ : L2.St) (H : Hp), EnvR K H0 M0 NoA env σ H →
    SatS K H0 M0 NoA W (evSs G ts env) env σ H { D with nx := tTl G W K r D } → tIb G W K ts r D σ H
  | [], env, σ, H, E, q => by
    rw [evSs] at q
    exact q σ H Stp.refl SubS.refl E
  | t :: ts, env, σ, H, E, q => by
    rw [evSs] at q
    refine ⟨H0, M0, NoA, env, E, ?_⟩
    cases h : evS G t env with
    | nx e' =>
      rw [h] at q
      exact fun σ' H' s u E' => ib_read ts e' σ' H' E' (SatS.go (show SatS K H0 M0 NoA W (evSs G ts e') env σ H _ from q) s u)
    | bad => rw [h] at q; exact q
    | rt d e => rw [h] at q; exact q
    | rl d e => rw [h] at q; exact q
    | bk e => rw [h] at q; exact q
    | ct e => rw [h] at q; exact q
    | exc C f d e => rw [h] at q; exact q
theorem env0I {H : Hp} {M : AS} {a : Addr} {ds : List D} {rest : List V} {N : List Str} (hl : rest.length ≤ N.length) (hM : MOk M H) (ha : Lv H a) (r : RepL K H (fun b => M b ∨ b = a) ds rest) :
    EnvR K (fun b => if b = a then none else H b) (fun b => M b ∨ b = a) NoA (startI N.length (.ref a) ds) (some (.ref a) :: L2.start N rest) H ∧ ∀ b, ¬ MutAt (startI N.length (.ref a) ds) (some (.ref a) :: L2.start N rest) b := by
  have ar : ArgR K H (fun b => M b ∨ b = a) none ds rest := ⟨r.length, fun i d v h1 h2 => ⟨fun _ => by
    obtain ⟨v', g1, g2⟩ := r.get h1
    rw [h2] at g1; cases g1
    exact g2, fun z => nomatch z⟩⟩
  obtain ⟨E, noM⟩ := env0 (N := N) hl ⟨fun b z => z.elim (hM.al b) fun q => by rw [q]; exact ha, hM.tb⟩ ar
  have noM' : ∀ b, ¬ MutAt (startI N.length (.ref a) ds) (some (.ref a) :: L2.start N rest) b := fun b ⟨j, es, e1, e2⟩ => by
    cases j with
    | zero => unfold startI at e1; simp at e1
    | succ j => exact noM b ⟨j, es, by unfold startI at e1; simpa using e1, by simpa using e2⟩
  have sub : ∀ b, MM (fun b => M b ∨ b = a) (startI N.length (.ref a) ds) (some (.ref a) :: L2.start N rest) b → MM (fun b => M b ∨ b = a) (startE none N.length ds) (L2.start N rest) b := fun b z => z.elim .inl fun q => (noM' b q).elim
  refine ⟨⟨?_, fun b u h _ _ => ?_, fun b ⟨u, h1, h2⟩ => ⟨u, by dsimp only at h1; split at h1 <;> first | (cases h1; done) | exact h1, h2⟩, hM.tb, E.m0, fun b z => z.elim, fun b c z => z.elim, fun j d h => ?_, fun j es h => ?_, fun j es h => ?_, fun j k b es fs h1 h2 h3 h4 => (noM' b ⟨j, es, h1, h3⟩).elim, fun j k es fs h1 h2 => ?_, fun j C ns es h => ?_⟩, noM'⟩
  · unfold startI; simp [E.len]
  · split at h
    · cases h
    · exact h
  · cases j with
    | zero =>
      unfold startI at h
      simp at h
      subst h
      exact ⟨_, rfl, by unfold Rep; rfl⟩
    | succ j =>
      unfold startI at h
      obtain ⟨v, a1, a2⟩ := E.dat j d (by simpa using h)
      exact ⟨v, by simpa using a1, Rep.stp Stp.refl sub d v a2⟩
  · cases j with
    | zero => unfold startI at h; simp at h
    | succ j =>
      unfold startI at h
      obtain ⟨b, zs, a1, a2, a3, a4, a5⟩ := E.own j es (by simpa using h)
      exact (noM b ⟨j, es, by simpa using h, a1⟩).elim
  · cases j with
    | zero => unfold startI at h; simp at h
    | succ j =>
      unfold startI at h
      obtain ⟨b, zs, a1, ⟨i, a2, _⟩, _⟩ := E.io j es (by simpa using h)
      cases a2
  · cases j with
    | zero => unfold startI at h1; simp at h1
    | succ j =>
      unfold startI at h1
      obtain ⟨b, zs, a1, ⟨i, a2, _⟩, _⟩ := E.io j es (by simpa using h1)
      cases a2
  · cases j with
    | zero => unfold startI at h; simp at h
    | succ j =>
      unfold startI at h
      exact E.slf j C ns es (by simpa using h)
theorem start_consI {x : Str} {N : List Str} {v : V} {rest : List V} : L2.start (x :: N) (v :: rest) = some v :: L2.start N rest := by
  unfold L2.start
  simp
theorem init_read {n : Nat} {C : Str} {F : List D → FR} {b : List ST} {es : List (Str × IR)} {x : Str} {N : List Str} {vs : List V} {H : Hp} {Q : VK} {E : XK} (hF : InitF G N.length b es F) (hn : n ≤ N.length) (cl : Cls K (clsAt K C)) (nd : (es.map (·.1)).Nodup) (na : ∀ f, f ∈ es.map (·.1) → NoAttr K (clsAt K C) f) (hlen : es.length < 900)
    (h : spMk K C n (es.map (·.1)) F vs H Q E) : tIb G (fun cls d _ H' => E cls d H') K b es { nx := fun _ H' => Q .non H', rt := Q } (L2.start (x :: N) vs) H := by
  obtain ⟨M, ds, a, dx, rest, hM, rfl, hl, ha, nM, rr, h⟩ := h
  rw [start_consI]
  have ha' : Lv H a := Lv.ins ha
  obtain ⟨E0, noM⟩ := env0I (N := N) (by rw [hl]; exact hn) hM ha' rr
  have fl : ∀ {H' : Hp}, Stp (WW NoA (startI N.length (.ref a) ds) (some (.ref a) :: L2.start N rest)) H H' → Stp NoA H H' := fun {H'} s => s.weak fun b z => z.elim id fun q => (noM b q).elim
  refine ib_read b _ _ H E0 ?_
  rcases hF (.ref a) ds with z | ⟨e, out, e', z1, z2, z3, z4⟩ | ⟨C', f, d, e, z1, z2⟩
  · rw [z] at h; exact h.elim
  · rw [z4] at h
    rw [z1]
    intro σ' H' s u E'
    have s0 := fl s
    obtain ⟨v0, g1, g2⟩ := E'.dat 0 _ z2
    unfold Rep at g2
    subst g2
    refine tl_run (o := a) (dx := dx) (C := clsAt K C) g1 cl (.inr rfl) (nn_of (if_pos rfl)) es e H' [] [] [] out e' E' (by simpa using s0.st a _ ha id nt_ins) rfl (by simpa using hlen) (by simpa using nd) na RepL.nil z3 fun H'' ys s2 a1 a2 a3 => ?_
    refine h ys H'' ?_ (by simpa using a1) (by simpa using a2) (RepL.stp (M := fun b => M b ∨ b = a) Stp.refl (fun _ z => .inl z) out ys (by simpa using a3))
    refine ⟨fun b o2 e2 nb t => ?_, fun b hb => s2.mo b (s0.mo b hb), fun P q m h => s2.tb P q m (s0.tb P q m h)⟩
    refine s2.st b o2 (s0.st b o2 e2 id t) (fun z => ?_) t
    rcases z with z | z
    · rcases u.own b z with q | q
      · exact noM b q
      · exact q ⟨o2, e2, t⟩
    · exact nb z
  · rw [z2] at h
    rw [z1]
    intro σ' dd v H' s u E' hd r
    exact h dd v H' ((fl s).weak fun _ z => z.elim) hd (Rep.stp Stp.refl (fun _ z => .inl (.inl z)) d v r)
end
section
variable {P : Program} {w : World} {K : PySem.W.Frag} {mg : Str → Option Value} {base : Heap} {G : Ctx}
/-- THE RULE for an __init__ with defaults or without -/
theorem fn_init {x qual self C : Str} {params : Arguments} {body : List Stmt} {scope : Scope} {dvs : List V} {kws : List (Str × V)} {f : Addr} {fd : FuncData} {N ps : List Str} {k n : Nat} {b : List ST} {es : List (Str × IR)} {F : List D → FR} (Fd : FunD K x qual params body scope dvs kws f fd) (S : FnScope (self :: N) (self :: ps) scope) (hn : ps.length = n) (hnN : n ≤ N.length)
    (hF : InitF G N.length b es F) (cl : Cls K (clsAt K C)) (nd : (es.map (·.1)).Nodup) (na : ∀ f, f ∈ es.map (·.1) → NoAttr K (clsAt K C) f) (hlen : es.length < 900)
    (hb : ∀ (cdv : Value) (A : Around) (outer : List PySem.Env) (s : Shared) (H : Hp) (E : XK), Room k (A.deeper (envOfC qual scope s.heap.objs.size f cdv)) →
      InitB (cxOf (L2.CX P w) P w K mg base (self :: N) qual scope f cdv A outer s H E) G (fun cls d _ H' => E cls d H') body b es) :
    FnOk P w K mg base (L2.CX P w) (k + 1) f fd (self :: ps) (spMk K C n (es.map (·.1)) F) :=
  fund_ok Fd S (fun vs H Q E h => by
    obtain ⟨M, ds, a, dx, rest, _, rfl, hl, _⟩ := h
    simp [hl, hn]) fun cdv A outer s H vs Q E hr h => ⟨_, (hb cdv A outer s H E hr).pss, init_read hF hnN cl nd na hlen h⟩
end
end Mp
set_option maxHeartbeats 4000000
namespace Mp
open PySem L2 PyProof.Rows
variable [TabsW] [GdW]
section
variable {P : Program} {w : World} {K : PySem.W.Frag} {mg : Str → Option Value} {base : Heap} {k : Nat} {x : Str} {a : Addr} {fd : FuncData} {ps : List Str}
theorem fnF_mk {n : Nat} {io : Option Nat} {sem : List D → FR} (hd : (x == ("__debug__" : Str)) = false) (hm : mg x = some (.ref a)) (hk : PySem.W.keepIn K (.ref a) = true) (ok : FnOk P w K mg base (L2.CX P w) k a fd ps (spF K n io sem)) (hb : Binds K fd ps []) : FnF P w K mg base k x ⟨n, io, sem⟩ :=
  ⟨hd, a, fd, ps, _, [], [], hm, hk, ok, hb, .nil, fun vs H Q E h => by rw [List.append_nil]; exact h⟩
theorem frF_mk {n : Nat} {io : Option Nat} {sem : List D → FR} (hd : (x == ("__debug__" : Str)) = false) (hm : mg x = some (.ref a)) (hk : PySem.W.keepIn K (.ref a) = true) (ok : FnOk P w K mg base (L2.CX P w) k a fd ps (spFr K n sem)) (hb : Binds K fd ps []) : FrF P w K mg base k x ⟨n, io, sem⟩ :=
  ⟨hd, a, fd, ps, _, [], [], hm, hk, ok, hb, .nil, fun vs H Q E h => by rw [List.append_nil]; exact h⟩
theorem mtF_mk {C m : Str} {n : Nat} {sem : List D → FR} (cl : Cls K (clsAt K C)) (hm : Meth K (clsAt K C) m a) (ok : FnOk P w K mg base (L2.CX P w) k a fd ps (spF K n none sem)) (hb : Binds K fd ps []) : MtF P w K mg base k ⟨C, m, n, sem⟩ :=
  ⟨cl, a, fd, ps, _, [], [], hm, ok, hb, .nil, fun vs H Q E h => by rw [List.append_nil]; exact h⟩
theorem mkF_mk {C : Str} {n : Nat} {ns : List Str} {sem : List D → FR} (hd : (x == ("__debug__" : Str)) = false) (hm : mg x = some (.ref (clsAt K C))) (M : Mk K (clsAt K C) a) (ok : FnOk P w K mg base (L2.CX P w) k a fd ps (spMk K C n ns sem)) (hb : Binds K fd ps []) : MkF P w K mg base k x ⟨C, n, ns, sem⟩ :=
  ⟨hd, a, fd, ps, _, [], [], hm, M, ok, hb, .nil, fun v vs H Q E h => by rw [List.append_nil]; exact h⟩
theorem kit_self {C : Addr} : PySem.W.kitOne K (.ref C) (.ref C) = some true := by unfold PySem.W.kitOne; simp
theorem kit_ct {C : Addr} {T : String} {r : Bool} (hT : PySem.W.kitMeta T = true) (h : PySem.W.subIn K (.ref C) (.type T) = some r) : PySem.W.kitOne K (.ref C) (.type T) = some r := by
  unfold PySem.W.kitOne PySem.W.kitCls
  rw [if_neg (by simp)]
  dsimp only
  rw [if_pos hT]
  exact h
theorem kit_tc {C : Addr} {T : String} {r : Bool} (h0 : PySem.W.isClsIn K C = true) (h1 : PySem.W.typeIn K (.ref C) = some (.type "type")) (h : PySem.W.subIn K (.type T) (.ref C) = some r) : PySem.W.kitOne K (.type T) (.ref C) = some r := by
  unfold PySem.W.kitOne PySem.W.kitCls
  have h0' : (PySem.W.clsIn K C).isSome = true := h0
  rw [if_neg (by simp)]
  dsimp only
  rw [h0', h1]
  exact h
/-- what law(script) promises: for a list of at most 63 ints the answer is True -/
def spLaw (K : PySem.W.Frag) : Sp := fun vs H Q _ => ∃ (a : Addr) (ns : List Int), (∀ P q, (P, q) ∈ TabsW.T → LamX.TabS H P q) ∧ vs = [.ref a] ∧ SqL K H a (ns.map V.int) ∧ ns.length ≤ 63 ∧ ∀ H', Q (.bl true) H'
theorem law_imp {sem : List D → FR} (math : ∀ ns : List Int, ns.length ≤ 63 → ∃ out, sem [.lst (ns.map .int)] = .ok (.bl true) out) {vs : List V} {H : Hp} {Q : VK} {E : XK} (h : spLaw K vs H Q E) : spF K 1 none sem vs H Q E := by
  obtain ⟨a, ns, hT, rfl, hS, hl, q⟩ := h
  have r : Rep K H NoA (.lst (ns.map .int)) (.ref a) := by
    unfold Rep
    exact ⟨a, _, rfl, RdK.ofS id hS, RepL.of_ints ns⟩
  refine ⟨rfl, NoA, [.lst (ns.map .int)], ⟨fun _ z => z.elim, hT⟩, ⟨rfl, fun i d v h1 h2 => ⟨fun _ => ?_, fun z => nomatch z⟩⟩, ?_⟩
  · obtain ⟨v', g1, g2⟩ := (RepL.cons r RepL.nil).get h1
    rw [h2] at g1; cases g1
    exact g2
  · obtain ⟨out, e⟩ := math ns hl
    rw [e]
    intro v H' _ _ rv
    unfold Rep at rv
    rw [rv]
    exact q H'
end
end Mp
set_option maxHeartbeats 4000000
namespace Mp
open PySem L2
variable [TabsW] [GdW]
section
variable {G : Ctx}
theorem R.bind_ok {α β : Type} {a : α} {e : Env} {k : α → Env → R β} : (R.ok a e).bind k = k a e := rfl
theorem eva_vals {io : Option Nat} : ∀ (es : List IR) (n : Nat) (env : Env), (∀ i, io = some i → i < n) → eva G io n es env = (evs G es env).bind fun ds e1 => .ok (ds.map Opd.val, []) e1
  | [], n, env, h => by rw [eva, evs]; rfl
  | e :: es, n, env, h => by
    rw [eva, evs, if_neg (fun z => Nat.lt_irrefl _ (h n z))]
    cases (ev G e env).take with
    | bad => rfl
    | exc C f d e1 => rfl
    | ok d e1 =>
      show ((eva G io (n + 1) es e1).bind fun p e2 => R.ok (Opd.val d :: p.1, p.2) e2) = ((evs G es e1).bind fun ds e2 => R.ok (d :: ds) e2).bind fun ds e1 => .ok (ds.map Opd.val, []) e1
      rw [eva_vals es (n + 1) e1 fun i z => Nat.lt_succ_of_lt (h i z)]
      cases evs G es e1 with
      | bad => rfl
      | exc C f d e1 => rfl
      | ok ds e2 => rfl
theorem rd_vals {env : Env} : ∀ (ds : List D), (ds.map Opd.val).mapM (rdO env) = some ds
  | [] => rfl
  | d :: ds => by rw [List.map_cons, List.mapM_cons, rd_vals ds]; rfl
def runF (env : Env) : FR → R Opd
  | .ok d _ => .ok (.val d) env
  | .exc C f d _ => .exc C f d env
  | .bad => .bad
/-- a call, nothing handed over -/
theorem ev_call {j : Nat} {f : Fn} {es : List IR} {env : Env} (hj : G.fns[j]? = some f) (hio : f.io = none) (hn : es.length = f.n) : ev G (.call j es) env = (evs G es env).bind fun ds e1 => runF e1 (f.sem ds) := by
  rw [ev, hj]
  dsimp only
  rw [if_pos hn, hio, eva_vals (io := none) es 0 env (fun i z => by cases z)]
  cases evs G es env with
  | bad => rfl
  | exc C f d e1 => rfl
  | ok ds e1 =>
    show (match (ds.map Opd.val).mapM (rdO e1) with
      | some ds => frR e1 none [] (f.sem ds)
      | none => .bad) = runF e1 (f.sem ds)
    rw [rd_vals]
    dsimp only
    cases f.sem ds <;> rfl
/-- a call whose first argument is a list that it changes -/
theorem ev_call_io {j i : Nat} {f : Fn} {es : List IR} {env : Env} {ds : List D} (hj : G.fns[j]? = some f) (hio : f.io = some 0) (hn : es.length + 1 = f.n) (hi : env[i]? = some (some (.own ds)) ∨ env[i]? = some (some (.io ds))) :
    ev G (.call j (.v i :: es)) env = (evs G es env).bind fun vs e1 => match (cellAt e1 i).map content with
      | some d0 => frR e1 (some 0) [i] (f.sem (d0 :: vs))
      | none => .bad := by
  rw [ev, hj]
  dsimp only
  rw [if_pos (by rw [List.length_cons]; exact hn), hio, eva, if_pos rfl]
  have hv : ev G (.v i) env = .ok (.pl i) env := by
    rw [ev]
    unfold cellAt
    rcases hi with h | h <;> (rw [h]; rfl)
  rw [hv]
  show ((eva G (some 0) 1 es env).bind fun p e2 => R.ok (Opd.pl i :: p.1, i :: p.2) e2).bind _ = _
  rw [eva_vals es 1 env fun i z => by cases z; decide]
  cases evs G es env with
  | bad => rfl
  | exc C f d e1 => rfl
  | ok vs e1 =>
    show (match (Opd.pl i :: vs.map Opd.val).mapM (rdO e1) with
      | some ds => frR e1 (some 0) [i] (f.sem ds)
      | none => .bad) = _
    rw [List.mapM_cons, rd_vals]
    show (match (do let r ← (cellAt e1 i).map content; let rs ← some vs; pure (r :: rs)) with
      | some ds => frR e1 (some 0) [i] (f.sem ds)
      | none => R.bad) = (match (cellAt e1 i).map content with
      | some d0 => frR e1 (some 0) [i] (f.sem (d0 :: vs))
      | none => .bad)
    cases (cellAt e1 i).map content with
    | none => rfl
    | some d0 => rfl
theorem evq_c {d : D} {env : Env} : ev G (.c d) env = (.ok (.val d) env) := by first | (rw [ev]; done) | (rw [ev]; rfl)
theorem evq_v {i : Nat} {env : Env} : ev G (.v i) env = (match cellAt env i with
    | some (.dat d) => .ok (.val d) env
    | some (.own _) => .ok (.pl i) env
    | some (.io _) => .ok (.pl i) env
    | _ => .bad) := by first | (rw [ev]; done) | (rw [ev]; rfl)
theorem evq_bin {op : BOp} {a : IR} {b : IR} {env : Env} : ev G (.bin op a b) env = ((ev G a env).bind fun x e1 => (ev G b e1).bind fun y e2 => match rdO e2 x, rdO e2 y with
    | some p, some q => lift e2 (binD op p q)
    | _, _ => .bad) := by first | (rw [ev]; done) | (rw [ev]; rfl)
theorem evq_cmp {op : COp} {a : IR} {b : IR} {env : Env} : ev G (.cmp op a b) env = ((ev G a env).bind fun x e1 => (ev G b e1).bind fun y e2 => match rdO e2 x, rdO e2 y with
    | some p, some q => lift e2 ((cmpD op p q).map .bl)
    | _, _ => .bad) := by first | (rw [ev]; done) | (rw [ev]; rfl)
theorem evq_chn {op1 : COp} {op2 : COp} {a : IR} {b : IR} {c : IR} {env : Env} : ev G (.chn op1 op2 a b c) env = ((ev G a env).bind fun x e1 => (ev G b e1).bind fun y e2 => match rdO e2 x, rdO e2 y with
    | some p, some q => (match cmpD op1 p q with
      | some true => (ev G c e2).bind fun z e3 => (match rdO e3 y, rdO e3 z with
        | some p, some q => lift e3 ((cmpD op2 p q).map .bl)
        | _, _ => .bad)
      | some false => .ok (.val (.bl false)) e2
      | none => .bad)
    | _, _ => .bad) := by first | (rw [ev]; done) | (rw [ev]; rfl)
theorem evq_and_ {a : IR} {b : IR} {env : Env} : ev G (.and_ a b) env = ((ev G a env).bind fun x e1 => match (rdO e1 x).bind truD with
    | some true => ev G b e1
    | some false => .ok x e1
    | none => .bad) := by first | (rw [ev]; done) | (rw [ev]; rfl)
theorem evq_or_ {a : IR} {b : IR} {env : Env} : ev G (.or_ a b) env = ((ev G a env).bind fun x e1 => match (rdO e1 x).bind truD with
    | some true => .ok x e1
    | some false => ev G b e1
    | none => .bad) := by first | (rw [ev]; done) | (rw [ev]; rfl)
theorem evq_not_ {a : IR} {env : Env} : ev G (.not_ a) env = ((ev G a env).bind fun x e1 => match (rdO e1 x).bind truD with
    | some b => .ok (.val (.bl (!b))) e1
    | none => .bad) := by first | (rw [ev]; done) | (rw [ev]; rfl)
theorem evq_neg {a : IR} {env : Env} : ev G (.neg a) env = ((ev G a env).bind fun x e1 => match x with
    | .val (.int i) => .ok (.val (.int (-i))) e1
    | _ => .bad) := by first | (rw [ev]; done) | (rw [ev]; rfl)
theorem evq_ite {t : IR} {a : IR} {b : IR} {env : Env} : ev G (.ite t a b) env = ((truR (ev G t env)).bind fun c e1 => if c then ev G a e1 else ev G b e1) := by first | (rw [ev]; done) | (rw [ev]; rfl)
theorem evq_tup {es : List IR} {env : Env} : ev G (.tup es) env = ((evs G es env).bind fun ds e1 => if ds.length ≤ BIG then .ok (.val (.tup ds)) e1 else .bad) := by first | (rw [ev]; done) | (rw [ev]; rfl)
theorem evq_lst {es : List IR} {env : Env} : ev G (.lst es) env = ((evs G es env).bind fun ds e1 => if ds.length ≤ BIG then .ok (.val (.lst ds)) e1 else .bad) := by first | (rw [ev]; done) | (rw [ev]; rfl)
theorem evq_ix {a : IR} {b : IR} {env : Env} : ev G (.ix a b) env = ((ev G a env).bind fun x e1 => (ev G b e1).bind fun y e2 => match rdO e2 x, rdO e2 y with
    | some p, some q => lift e2 (ixD p q)
    | _, _ => .bad) := by first | (rw [ev]; done) | (rw [ev]; rfl)
theorem evq_sl {a : IR} {lo : Option IR} {hi : Option IR} {env : Env} : ev G (.sl a lo hi) env = ((ev G a env).bind fun x e1 => (evo G lo e1).bind fun i e2 => (evo G hi e2).bind fun j e3 => match rdO e3 x with
    | some p => lift e3 (slD p i j)
    | none => .bad) := by first | (rw [ev]; done) | (rw [ev]; rfl)
theorem evq_meth {j : Nat} {o : IR} {es : List IR} {env : Env} : ev G (.meth j o es) env = (match G.mts[j]? with
    | none => .bad
    | some m => (ev G o env).bind fun x e1 => match x with
      | .val (.obj C ns ds) => if C = m.C ∧ es.length + 1 = m.n ∧ ns.contains m.name = false then (evs G es e1).bind fun vs e2 => frR e2 none [] (m.sem (.obj C ns ds :: vs)) else .bad
      | _ => .bad) := by first | (rw [ev]; done) | (rw [ev]; rfl)
theorem evq_make {j : Nat} {es : List IR} {env : Env} : ev G (.make j es) env = (match G.mks[j]? with
    | none => .bad
    | some m => if es.length = m.n then (evs G es env).bind fun vs e1 => (match m.sem vs with
      | .ok _ out => .ok (.val (.obj m.C m.ns out)) e1
      | .exc C f d _ => .exc C f d e1
      | .bad => .bad) else .bad) := by first | (rw [ev]; done) | (rw [ev]; rfl)
theorem evq_blt {b : Blt} {es : List IR} {env : Env} : ev G (.blt b es) env = ((evr G es env).bind fun os e1 => match os.mapM (rdO e1) with
    | some ds => lift e1 (bltD b ds)
    | none => .bad) := by first | (rw [ev]; done) | (rw [ev]; rfl)
theorem evq_isin {a : IR} {ts : List Ty} {env : Env} : ev G (.isin a ts) env = ((ev G a env).bind fun x e1 => match rdO e1 x with
    | some d => if knownB G.cls d then .ok (.val (.bl (ts.any fun t => tyD t d))) e1 else .bad
    | none => .bad) := by first | (rw [ev]; done) | (rw [ev]; rfl)
theorem evq_app {i : Nat} {e : IR} {env : Env} : ev G (.app i e) env = (if ownB env i then (ev G e env).take.bind fun d e1 => match e1[i]? with
    | some (some (.own ds)) => if ds.length < BIG then .ok (.val .non) (e1.set i (some (.own (ds ++ [d])))) else .bad
    | _ => .bad
    else .bad) := by first | (rw [ev]; done) | (rw [ev]; rfl)
theorem evq_lrng {e : IR} {env : Env} : ev G (.lrng e) env = ((ev G e env).rd.bind fun d e1 => match d with
    | .int j => if -1000000 ≤ j ∧ j ≤ BIG then .ok (.val (.lst (iotaD 0 j.toNat))) e1 else .bad
    | _ => .bad) := by first | (rw [ev]; done) | (rw [ev]; rfl)
end
end Mp
set_option maxHeartbeats 4000000
namespace Mp
open PySem L2
variable [TabsW] [GdW]
theorem back_same {env0 env' : Env} {i : Nat} (h : env'.set i none = env0.set i none) : backE env0 env' [i] = env0 := by
  unfold backE
  unfold backE
  have e : env'.set i (env0[i]?).join = env0.set i (env0[i]?).join := by
    have e1 : env'.set i (env0[i]?).join = (env'.set i none).set i (env0[i]?).join := by rw [List.set_set]
    rw [e1, h, List.set_set]
  rw [e]
  by_cases hi : i < env0.length
  · rw [List.getElem?_eq_getElem hi]
    simp
  · rw [List.set_eq_of_length_le (by omega)]
theorem free_wipe {env : Env} {i : Nat} (hi : i < env.length) : freeB (env.set i none) i = true := by
  unfold freeB
  rw [List.getElem?_set_self hi]
theorem lcLoop_filter {env0 : Env} {i : Nat} {T : Option (Env → R Bool)} {E : Env → R D} {p : D → Bool} {g : D → D} (hi : i < env0.length) : ∀ (ds : List D) (env : Env), env.set i none = env0.set i none →
    (∀ d, d ∈ ds → (match T with
      | none => R.ok true (env0.set i (some (.dat d)))
      | some t => t (env0.set i (some (.dat d)))) = .ok (p d) (env0.set i (some (.dat d)))) →
    (∀ d, d ∈ ds → p d = true → E (env0.set i (some (.dat d))) = .ok (g d) (env0.set i (some (.dat d)))) →
    ∃ env', lcLoop [i] (.name i) T E ds env = .ok ((ds.filter p).map g) env' ∧ env'.set i none = env0.set i none
  | [], env, h, _, _ => ⟨env, rfl, h⟩
  | d :: ds, env, h, hT, hE => by
    have hb : bindT (.name i) d (wipeE env [i]) = some (env0.set i (some (.dat d))) := by
      show (if freeB (env.set i none) i = true then some ((env.set i none).set i (some (Cell.dat d))) else none) = _
      rw [h, if_pos (free_wipe hi), List.set_set]
    have t := hT d List.mem_cons_self
    unfold lcLoop
    rw [hb]
    dsimp only
    have t' : (match T with
      | none => R.ok true (env0.set i (some (.dat d)))
      | some t => t (env0.set i (some (.dat d)))) = .ok (p d) (env0.set i (some (.dat d))) := t
    cases hp : p d with
    | false =>
      obtain ⟨env', e1, e2⟩ := lcLoop_filter hi ds (env0.set i (some (.dat d))) (by rw [List.set_set]) (fun d hd => hT d (List.mem_cons_of_mem _ hd)) (fun d hd => hE d (List.mem_cons_of_mem _ hd))
      refine ⟨env', ?_, e2⟩
      rw [List.filter_cons_of_neg (by rw [hp]; decide), ← e1]
      rw [hp] at t'
      cases T with
      | none => cases t'
      | some t0 =>
        dsimp only at t' ⊢
        rw [t']
        rfl
    | true =>
      obtain ⟨env', e1, e2⟩ := lcLoop_filter hi ds (env0.set i (some (.dat d))) (by rw [List.set_set]) (fun d hd => hT d (List.mem_cons_of_mem _ hd)) (fun d hd => hE d (List.mem_cons_of_mem _ hd))
      refine ⟨env', ?_, e2⟩
      rw [List.filter_cons_of_pos hp, List.map_cons]
      rw [hp] at t'
      have x := hE d List.mem_cons_self hp
      cases T with
      | none =>
        show ((E (env0.set i (some (.dat d)))).bind fun x env3 => (lcLoop [i] (.name i) none E ds env3).bind fun xs env4 => R.ok (x :: xs) env4) = _
        rw [x]
        show ((lcLoop [i] (.name i) none E ds (env0.set i (some (.dat d)))).bind fun xs env4 => R.ok (g d :: xs) env4) = _
        rw [e1]
        rfl
      | some t0 =>
        dsimp only at t' ⊢
        rw [t']
        show ((E (env0.set i (some (.dat d)))).bind fun x env3 => (lcLoop [i] (.name i) (some t0) E ds env3).bind fun xs env4 => R.ok (x :: xs) env4) = _
        rw [x]
        show ((lcLoop [i] (.name i) (some t0) E ds (env0.set i (some (.dat d)))).bind fun xs env4 => R.ok (g d :: xs) env4) = _
        rw [e1]
        rfl
/-- [e for x in it if t]: the environment is behind it as ahead -/
theorem ev_lc_run {G : Ctx} {i : Nat} {it : IT} {t : Option IR} {e : IR} {env env0 : Env} {ds : List D} (p : D → Bool) (g : D → D) (hit : evi G it env = .ok ds env0) (hl : ds.length ≤ BIG) (hh : hideB env0 i = true) (hi : i < env0.length)
    (hT : ∀ d, d ∈ ds → (match t with
      | none => R.ok true (env0.set i (some (.dat d)))
      | some t => truR (ev G t (env0.set i (some (.dat d))))) = .ok (p d) (env0.set i (some (.dat d))))
    (hE : ∀ d, d ∈ ds → p d = true → (ev G e (env0.set i (some (.dat d)))).take = .ok (g d) (env0.set i (some (.dat d)))) :
    ev G (.lc (.name i) it t e [i]) env = .ok (.val (.lst ((ds.filter p).map g))) env0 := by
  rw [ev_lc, hit]
  show (if ds.length ≤ BIG ∧ [i].all (hideB env0) = true ∧ (tgOwn (.name i)).all (fun j => [i].contains j) = true then _ else _) = _
  rw [if_pos ⟨hl, by simp [hh], by simp [tgOwn]⟩]
  obtain ⟨env', e1, e2⟩ := lcLoop_filter (T := tsF G t) (E := fun x => (ev G e x).take) (p := p) (g := g) hi ds env0 rfl (fun d hd => by
    have := hT d hd
    cases t with
    | none => exact this
    | some t => exact this) hE
  rw [e1]
  show R.ok (Opd.val (D.lst ((ds.filter p).map g))) (backE env0 env' [i]) = _
  rw [back_same e2]
end Mp
set_option maxHeartbeats 4000000
namespace Mp
open PySem L2
variable [TabsW] [GdW]
/-- what a comprehension makes of what is walked: left out, or taken as something -/
inductive LcR (Skip : D → Prop) (Take : D → D → Prop) : List D → List D → Prop where
  | nil : LcR Skip Take [] []
  | skip {d ds xs} : Skip d → LcR Skip Take ds xs → LcR Skip Take (d :: ds) xs
  | take {d x ds xs} : Take d x → LcR Skip Take ds xs → LcR Skip Take (d :: ds) (x :: xs)
/-- the test of a turn -/
def tstR (T : Option (Env → R Bool)) (e : Env) : R Bool := match T with
  | none => .ok true e
  | some t => t e
theorem lcLoop_cons {own : List Nat} {tg : Tgt} {T : Option (Env → R Bool)} {E : Env → R D} {d : D} {ds : List D} {env e1 : Env} (hb : bindT tg d (wipeE env own) = some e1) :
    lcLoop own tg T E (d :: ds) env = (tstR T e1).bind fun b env2 => if b then (E env2).bind fun x env3 => (lcLoop own tg T E ds env3).bind fun xs env4 => .ok (x :: xs) env4 else lcLoop own tg T E ds env2 := by
  rw [lcLoop, hb]
  dsimp only
  cases T <;> rfl
theorem lcLoop_rel {own : List Nat} {tg : Tgt} {T : Option (Env → R Bool)} {E : Env → R D} (Inv : Env → Prop) (Skip : D → Prop) (Take : D → D → Prop) : ∀ (ds : List D) (env : Env), Inv env →
    (∀ d, d ∈ ds → ∀ env, Inv env → ∃ e1, bindT tg d (wipeE env own) = some e1 ∧ ((∃ e2, tstR T e1 = .ok false e2 ∧ Inv e2 ∧ Skip d) ∨ ∃ e2 x e3, tstR T e1 = .ok true e2 ∧ E e2 = .ok x e3 ∧ Inv e3 ∧ Take d x)) →
    ∃ xs env', lcLoop own tg T E ds env = .ok xs env' ∧ Inv env' ∧ LcR Skip Take ds xs
  | [], env, h, _ => ⟨[], env, by rw [lcLoop], h, .nil⟩
  | d :: ds, env, h, hs => by
    obtain ⟨e1, hb, z⟩ := hs d List.mem_cons_self env h
    rw [lcLoop_cons hb]
    rcases z with ⟨e2, h1, h2, h3⟩ | ⟨e2, x, e3, h1, h2, h3, h4⟩
    · obtain ⟨xs, env', g1, g2, g3⟩ := lcLoop_rel Inv Skip Take ds e2 h2 fun d hd => hs d (List.mem_cons_of_mem _ hd)
      refine ⟨xs, env', ?_, g2, .skip h3 g3⟩
      rw [h1]; exact g1
    · obtain ⟨xs, env', g1, g2, g3⟩ := lcLoop_rel Inv Skip Take ds e3 h3 fun d hd => hs d (List.mem_cons_of_mem _ hd)
      refine ⟨x :: xs, env', ?_, g2, .take h4 g3⟩
      rw [h1]
      show ((E e2).bind fun x env3 => (lcLoop own tg T E ds env3).bind fun xs env4 => R.ok (x :: xs) env4) = _
      rw [h2]
      show ((lcLoop own tg T E ds e3).bind fun xs env4 => R.ok (x :: xs) env4) = _
      rw [g1]; rfl
theorem LcR.map {Skip : D → Prop} {Take : D → D → Prop} {g : D → D} (h1 : ∀ d, ¬ Skip d) (h2 : ∀ d x, Take d x → x = g d) {ds xs : List D} (h : LcR Skip Take ds xs) : xs = ds.map g := by
  induction h with
  | nil => rfl
  | skip h _ _ => exact absurd h (h1 _)
  | take h _ ih => rw [h2 _ _ h, ih]; rfl
theorem LcR.len {Skip : D → Prop} {Take : D → D → Prop} (h1 : ∀ d, ¬ Skip d) {ds xs : List D} (h : LcR Skip Take ds xs) : xs.length = ds.length := by
  induction h with
  | nil => rfl
  | skip h _ _ => exact absurd h (h1 _)
  | take h _ ih => rw [List.length_cons, List.length_cons, ih]
theorem LcR.all {Skip : D → Prop} {Take : D → D → Prop} {P : D → Prop} (h2 : ∀ d x, Take d x → P x) {ds xs : List D} (h : LcR Skip Take ds xs) : ∀ x, x ∈ xs → P x := by
  induction h with
  | nil => intro x h; cases h
  | skip _ _ ih => exact ih
  | take h _ ih =>
    intro x hx
    rcases List.mem_cons.mp hx with rfl | hx
    · exact h2 _ _ h
    · exact ih x hx
section
variable {G : Ctx}
theorem ev_lcf_rel {own : List Nat} {tg : Tgt} {i : Nat} {t : Option IR} {e : IR} {env : Env} {ds : List D} (Inv : Env → Prop) (Skip : D → Prop) (Take : D → D → Prop)
    (hit : env[i]? = some (some (.own ds))) (hl : ds.length ≤ BIG) (hh : own.all (hideB (env.set i none)) = true) (ho : (tgOwn tg).all (fun i => own.contains i) = true) (h0 : Inv (env.set i none))
    (hs : ∀ d, d ∈ ds → ∀ env, Inv env → ∃ e1, bindT tg d (wipeE env own) = some e1 ∧ ((∃ e2, tstR (tsF G t) e1 = .ok false e2 ∧ Inv e2 ∧ Skip d) ∨ ∃ e2 x e3, tstR (tsF G t) e1 = .ok true e2 ∧ (ev G e e2).take = .ok x e3 ∧ Inv e3 ∧ Take d x))
    (hI : ∀ env', Inv env' → backE (env.set i none) env' own = env.set i none) :
    ∃ xs, ev G (.lcf tg i t e own) env = .ok (.val (.lst xs)) env ∧ LcR Skip Take ds xs := by
  obtain ⟨xs, env', h1, h2, h3⟩ := lcLoop_rel (T := tsF G t) (E := fun x => (ev G e x).take) Inv Skip Take ds (env.set i none) h0 hs
  refine ⟨xs, ?_, h3⟩
  have hi : i < env.length := (List.getElem?_eq_some_iff.mp hit).1
  rw [ev_lcf, hit]
  show (if ds.length ≤ BIG ∧ own.all (hideB (env.set i none)) = true ∧ (tgOwn tg).all (fun j => own.contains j) = true then _ else _) = _
  rw [if_pos ⟨hl, hh, ho⟩, h1]
  show (match (backE (env.set i none) env' own)[i]? with
    | some none => R.ok (Opd.val (.lst xs)) ((backE (env.set i none) env' own).set i (some (.own ds)))
    | _ => .bad) = _
  rw [hI env' h2, List.getElem?_set_self hi]
  show R.ok _ ((env.set i none).set i (some (.own ds))) = _
  rw [List.set_set]
  congr 1
  have : env[i]? = some (some (.own ds)) := hit
  rw [List.getElem?_eq_getElem hi] at this
  have e : env[i] = some (.own ds) := Option.some.inj this
  rw [← e, List.set_getElem_self]
end
end Mp
set_option maxHeartbeats 2000000
namespace PySem
namespace ErrBadPart
open PySem.W PySem.Calls PyProof.Rows PySem.HandSPX
def iA (p1 p2 : Pos) : Arguments := { posonlyargs := [], args := [{ arg := "self", annotation := none, pos := p1 }, { arg := "part", annotation := none, pos := p2 }], vararg := none, kwonlyargs := [], kw_defaults := [], kwarg := none, defaults := [] }
def iB (q1 q2 q3 q4 : Pos) : List Stmt := [.Assign [.Attribute (.Name "self" q1) "part" q2] (.Name "part" q3) q4]
def iS : Scope := { kind := .function, names := [(PySem.Str.ofString "self", .local), (PySem.Str.ofString "part", .local)], isGenerator := false, isCoroutine := false, more := [] }
/-- what the written part says of Low, at C, and of its __init__, at fI -/
structure LowTxt (K : Frag) (mg : Str → Option Value) (C fI : Addr) : Prop where
  gC : mg "BadPart" = some (.ref C)
  cls : ∃ nm q N bs bm sn sub ab col dd k0 k1 k2 k3 k5, K.lookup C = some (excClassObj nm q C N bs bm true sn sub ab col dd k0 k1 k2 k3 k5 "ValueError.__new__") ∧ refsVE bm = true
  sa : findIn K (.ref C) "__setattr__" = some (some (.builtin "object.__setattr__"))
  ga : findIn K (.ref C) "__getattribute__" = some (some (.builtin "BaseException.__getattribute__"))
  gg : findIn K (.ref C) "__getattr__" = some none
  noN : findIn K (.ref C) "part" = some none
  iC : findIn K (.ref C) "__init__" = some (some (.ref fI))
  tC : typeIn K (.ref fI) = some (.type "function")
  kC : keepIn K (.ref C) = true
  exC : subIn K (.ref C) (.type "BaseException") = some true
  tyC : typeIn K (.ref C) = some (.type "type")
  hdC : hasDictIn K C = true
  te : exmOne K (.ref C) (.ref C) = some true
  fn : ∃ (oc : Value) (od : Option Addr) (doc pm : Value) (an : Option Addr) (cdv ct : Value) (osl : Array (Option Value)) (p1 p2 q1 q2 q3 q4 : Pos),
    K.lookup fI = some ⟨oc, od, .func (fnOf "__init__" "BadPart.__init__" (iA p1 p2) (iB q1 q2 q3 q4) iS .none .none doc pm an cdv ct), osl⟩ ∧ codeIn K cdv "BadPart.__init__" = true
theorem one_size (v : Value) : [v].length ≤ sizeLine := by
  rw [sizeLine_eq]
  exact (by decide : 1 ≤ 16777216)
theorem ldC {M : Model} {s : Shared} {name : Str} {scope : Scope} {L a : Addr} {cd : Value} {m : Str → Option Value} {x : Str} {pos : Pos} {v : Value} {Q : Value → Shared → Prop} {A : Around} {E : Value → Shared → Prop} (hn : s.heap.Ns L m) (hv : m x = some v) (h : Q v s)
    (hk : scope.kind = .function := by rfl) (hl : (envOfC name scope L a cd).kindOf x = some .local := by rfl) (hd : (x == ("__debug__" : Str)) = false := by decide) :
    wpAny M A (eval (.Name x pos) (envOfC name scope L a cd)) Q E s := wpAny_Name (wpAny_loadName_local hk hl hn hv h) hd
/-- what __init__ leaves of a fresh exception at x -/
structure InitEnd (h h' : Heap) (x C dx t1 : Addr) (v : Value) : Prop where
  keep : ∀ b o, b ≠ x → h.get? b = some o → h'.get? b = some o
  obj : h'.get? x = some { cls := .ref C, dict := some dx, data := .fields #[.ref t1, .none, .none, .none, .bool false, .none] }
  dbig : h.objs.size ≤ dx
  dne : dx ≠ x
  ns : h'.Ns1 dx (fun y => if y = "part" then some v else none)
/-- a made Low -/
structure OwnMade (h h' : Heap) (e C d : Addr) (v : Value) : Prop where
  keep : ∀ b o, h.get? b = some o → h'.get? b = some o
  new : h.objs.size ≤ e
  obj : ∃ oe vs, h'.get? e = some oe ∧ oe.cls = .ref C ∧ oe.dict = some d ∧ oe.data = .fields vs ∧ vs[1]? = some .none
  dbig : h.objs.size ≤ d
  dne : d ≠ e
  ns : h'.Ns1 d (fun y => if y = "part" then some v else none)
section
variable {prog : Program} {w : World} {A : Around} {E : Value → Shared → Prop} {R : Result → Shared → Prop} {s : Shared} {K : Frag} {mg : Str → Option Value} {C fI : Addr}
theorem low_init (T : LowTxt K mg C fI) {x t0 : Addr} {v : Value} (X : K.In s.heap) (hlim : s.heap.NoLimit) (hx : s.heap.get? x = some (excO C t0)) (hnx : K.lookup x = none) (hroom : A.depth < recursionLimit)
    (hq : ∀ h' tk dx, InitEnd s.heap h' x C dx t0 v → R (.ok (.ret .none)) { s with heap := h', toks := tk }) :
    codeAny (model prog w) A (.call (.ref fI) ⟨[.ref x, v], []⟩) R s := by
  obtain ⟨oc, od, doc, pm, an, cdv, ct, osl, p1, p2, q1, q2, q3, q4, ho, hcd⟩ := T.fn
  obtain ⟨nm, q, N, bs, bm, sn, sub, ab, col, dd, k0, k1, k2, k3, k5, hC, hbm⟩ := T.cls
  have hcl : clsIn K C = some { name := nm, bases := bs, mro := .ref C :: bm, ns := N, qualname := q, hasDict := true, slotNames := sn, subclasses := sub, abstract := ab, collection := col, hasDel := false } := by unfold clsIn; rw [hC] <;> rfl
  refine Att.call_fn (binds := [("self", .ref x), ("part", v)]) X hlim ho hcd hroom (BindsTo.of_eq (by first | rfl | with_unfolding_all rfl)) (by first | rfl | decide | with_unfolding_all rfl) (fun s₁ IC => ?_) rfl rfl rfl
  obtain ⟨h₁, tk₁, rfl⟩ := IC.toInCall.same
  have k : ∀ b o, s.heap.get? b = some o → h₁.get? b = some o := IC.toInCall.keep
  have hn := IC.toInCall.ns
  have hxL : s.heap.objs.size ≠ x := Nat.ne_of_gt (Heap.lt_size hx)
  have X₁ : K.In h₁ := X.keeps k
  have hx₁ := k _ _ hx
  -- self.by = by
  show wpAny _ _ (execs _ _) _ _ _
  refine wpAny_execs_cons (plainObj_wpAny_Assign_Attribute ?_)
  refine ldC (v := v) hn (by first | rfl | with_unfolding_all rfl | kernel_rfl) (ldC (v := .ref x) hn (by first | rfl | with_unfolding_all rfl | kernel_rfl) ?_)
  refine set_plain X₁ (ox := excO C t0) (od := none) ⟨hx₁, rfl, rfl, trivial⟩ T.sa ?_
  refine exc_osa X₁ hx₁ hcl (show refsVE (.ref C :: bm) = true from hbm) rfl T.noN (fun h₃ tk₃ dx k₃ dn dne hx₃ hn₃ => ?_)
  show wpAny _ _ (execs _ _) _ _ _
  have z : s.heap.objs.size < h₁.objs.size := hn.lt
  exact wpAny_execs_nil (hq h₃ tk₃ dx ⟨fun b o hb e => k₃ b o hb (k b o e), hx₃, Nat.le_of_lt (Nat.lt_of_lt_of_le z dn), dne, hn₃⟩)
theorem low_made (T : LowTxt K mg C fI) {v : Value} (X : K.In s.heap) (hlim : s.heap.NoLimit) (hroom : A.depth + 1 < recursionLimit)
    (hq : ∀ h' tk e d, OwnMade s.heap h' e C d v → R (.ok (.ret (.ref e))) { s with heap := h', toks := tk }) :
    codeAny (model prog w) A (.call (.ref C) ⟨[v], []⟩) R s := by
  obtain ⟨nm, q, N, bs, bm, sn, sub, ab, col, dd, k0, k1, k2, k3, k5, hC, hbm⟩ := T.cls
  obtain ⟨hp, g, dr, tk, os⟩ := s
  have k : ∀ b o, hp.get? b = some o → ((hp.push (kdv_tup [v])).push (excO C hp.objs.size)).get? b = some o := fun b o e => Heap.get?_push_of_some _ (Heap.get?_push_of_some _ e)
  have hget : ((hp.push (kdv_tup [v])).push (excO C hp.objs.size)).get? (hp.objs.size + 1) = some (excO C hp.objs.size) := by heap_get
  have hnx : K.lookup (hp.objs.size + 1) = none := by
    cases e : K.lookup (hp.objs.size + 1) with
    | none => rfl
    | some o =>
      have z : hp.get? (hp.objs.size + 1) = some o := X _ _ e
      exact absurd (Nat.lt_of_succ_lt (Heap.lt_size z)) (Nat.lt_irrefl _)
  refine call_own F.excBase_ValueError (fun X => refsVE_contains X bm hbm) (X _ _ hC) (looks_findIn X T.iC) (fun self => bind_fn X self T.tC) (one_size v) ?_
  refine low_init (s := ⟨(hp.push (kdv_tup [v])).push (excO C hp.objs.size), g, dr, tk, os⟩) T (X.keeps k) (hlim.keeps k) hget hnx ?_ fun h' tk' dx ⟨k', hx, dn, dne, hns⟩ => ?_
  · show A.depth + 1 < recursionLimit
    exact hroom
  · have old : ∀ b o, hp.get? b = some o → h'.get? b = some o := fun b o e => k' b o (Nat.ne_of_lt (Nat.lt_succ_of_lt (Heap.lt_size e))) (k b o e)
    have z : hp.objs.size + 1 + 1 ≤ dx := by
      first
        | (simpa only [Heap.size_push] using dn)
        | exact dn
        | (have q := dn; rw [Heap.size_push, Heap.size_push] at q; exact q)
    exact ⟨rfl, hq h' tk' (hp.objs.size + 1) dx ⟨old, Nat.le_succ _, ⟨_, _, hx, rfl, rfl, rfl, rfl⟩, Nat.le_trans (Nat.le_trans (Nat.le_succ _) (Nat.le_succ _)) z, dne, hns⟩⟩
end
end ErrBadPart
end PySem
namespace L2
open PySem PySem.Spec PyProof.Rows
theorem relO_low_BadPart {v : V} {v' : Value} (r : RelV v v') (f : Str) : RelO (List.lookup f [(("part" : Str), v)]) (if f = "part" then some v' else none) := by
  by_cases hw : f = "part"
  · subst hw
    rw [if_pos rfl]
    have q : List.lookup ("part" : Str) [(("part" : Str), v)] = some v := by simp [List.lookup]
    rw [q]
    exact r
  · rw [if_neg hw]
    have qw : (f == ("part" : Str)) = false := by simpa using hw
    have q2 : List.lookup f [(("part" : Str), v)] = none := by simp [List.lookup, qw]
    rw [q2]
    trivial
section
variable {X : Cx} {C fI : Addr}
/-- Low(e) -/
def tMkLow_BadPart (C : Addr) (ta : TA) : St → Hp → XK → Prop := fun σ H Q => ta σ H fun vs H1 => ∃ v, vs = [v] ∧ ∀ d, H1 d = none → Q (.ref C) (some d) (upd H1 d (.xd [(("part" : Str), v)]))
theorem pmk_low_BadPart {a : Expr} {ta : TA} {p pos : Pos} {k : Nat} (T : PySem.ErrBadPart.LowTxt X.K X.mg C fI) (hr : Room k X.A) (ha : PA X [a] ta) (hg : Gl X "BadPart" := by rfl)
    (he : starEach (a :: []) X.env = (false, eval a X.env) :: starEach [] X.env := by rfl) (hpl : (backTo pos (starEach [] X.env)).any (·.1) = false := by rfl) :
    PMk X (.Call (.Name "BadPart" p) [a] [] pos) (tMkLow_BadPart C ta) := by
  intro pins s σ H Q I h
  refine wpAny_Call_Name_kw (ld_glob I hg T.gC ?_)
  refine PySem.W.callWith_K (h₀ := X.base) I.ok.mod.kin T.kC (thn (ha.run pos pins s σ H _ I h) fun us s1 hh => ?_) he hpl
  obtain ⟨vs, H1, I1, r1, v, ev, q1⟩ := hh
  subst ev
  refine ⟨I1.kIn, ?_⟩
  cases r1 with
  | cons rv rn =>
    rename_i v' us'
    cases rn
    show wpAny _ _ (call (.ref C) [v']) _ _ _
    have hlim := I1.nolimit
    obtain ⟨hp, g, dr, tk, os⟩ := s1
    refine wpAny_call (PySem.ErrBadPart.low_made T I1.kIn hlim (by have := hr.dp; omega) fun h' tk' e d M => ?_)
    show MkP X pins σ Q (.ref e) ⟨h', g, dr, tk', os⟩
    obtain ⟨oe, fv, hoe, hc, hd, hdat, h1⟩ := M.obj
    have hns := M.ns
    obtain ⟨G', g1, g2⟩ := restrict h' fun b => decide (b ≠ e)
    have gk : ∀ b, b ≠ e → G'.get? b = h'.get? b := fun b hb => g1 b (decide_eq_true hb)
    have ge : G'.get? e = none := g2 e (by simp)
    have old : ∀ b o, hp.get? b = some o → G'.get? b = some o := fun b o q => (gk b (Nat.ne_of_lt (Nat.lt_of_lt_of_le (Heap.lt_size q) M.new))).trans (M.keep b o q)
    have ob : ObjOk X.prog X.w (upd H1 d (.xd [(("part" : Str), v)])) G' d (.xd [(("part" : Str), v)]) :=
      ⟨_, hns.at (fun o q => (gk d M.dne).trans q), fun f => relO_low_BadPart rv f⟩
    have J : Inv X pins σ (upd H1 d (.xd [(("part" : Str), v)])) ⟨G', g, dr, tk', os⟩ := I1.laid (t' := tk') old M.dbig ob
    refine ⟨e, oe, fv, ⟨G', g, dr, tk', os⟩, _, .ref C, some d, rfl, J, fun b o q => ?_, ge, hoe, ⟨hc, hd⟩, hdat, h1, ?_, rfl, I1.bare, raises_own T.exC T.tyC, q1 d (I1.hok.fresh M.dbig)⟩
    · by_cases hb : b = e
      · have q' : G'.get? b = some o := q
        rw [hb, ge] at q'; cases q'
      · exact (gk b hb).symm.trans q
    · rw [upd_ne (Ne.symm M.dne)]
      exact I1.hok.fresh M.new
/-- raise Low(e) -/
def tRaiseLow_BadPart (C : Addr) (W : WX) (ta : TA) : TS := fun _ σ H => tMkLow_BadPart C ta σ H fun cls d H' => W cls d σ H'
theorem ps_raiseLow_BadPart {a : Expr} {ta : TA} {W : WX} {p pos pos2 : Pos} {k : Nat} (hc : X.calm = true) (T : PySem.ErrBadPart.LowTxt X.K X.mg C fI) (hr : Room k X.A) (tk : Takes X W) (ha : PA X [a] ta) (hg : Gl X "BadPart" := by rfl)
    (he : starEach (a :: []) X.env = (false, eval a X.env) :: starEach [] X.env := by rfl) (hpl : (backTo pos (starEach [] X.env)).any (·.1) = false := by rfl) :
    PS X (.Raise (some (.Call (.Name "BadPart" p) [a] [] pos)) none pos2) (tRaiseLow_BadPart C W ta) := ps_raise hc tk (pmk_low_BadPart T hr ha hg he hpl)
/-- low.by, low the exception that the suite holds (at a; its class cls, its dict d) -/
def tByLow_BadPart (C : Addr) (a : Addr) (cls : Value) (d : Option Addr) (te : TE) : TE := fun σ H Q => te σ H fun x H1 => x = .ref a ∧ cls = .ref C ∧ ∃ (dd : Addr) (v : V), d = some dd ∧ H1 dd = some (.xd [(("part" : Str), v)]) ∧ Q v H1
theorem pe_byLow_BadPart {a : Addr} {oe : Obj} {cls : Value} {d : Option Addr} {pn : List (Addr × Obj)} {e : Expr} {te : TE} {pos : Pos} (T : PySem.ErrBadPart.LowTxt X.K X.mg C fI) (hz : Zc cls d oe) (hf : ∃ vs, oe.data = .fields vs) (he : PE (X.suite a ((a, oe) :: pn)) e te)
    (hb : attributeBase e "part" X.env (eval e X.env) = eval e X.env := by rfl) :
    PE (X.suite a ((a, oe) :: pn)) (.Attribute e "part" pos) (tByLow_BadPart C a cls d te) := by
  refine ⟨fun pins s σ H Q I h => ?_⟩
  refine attr_of hb (thn (he.run pins s σ H _ I h) fun u s1 hh => ?_)
  obtain ⟨x, H1, I1, rx, ex, ec, dd, v, ed, ea, q⟩ := hh
  subst ex
  obtain rfl : u = Value.ref a := rx
  subst ec
  subst ed
  obtain ⟨ha, _⟩ := I1.pin (a, oe) (List.mem_append_left _ List.mem_cons_self)
  obtain ⟨vs, hd⟩ := hf
  have hx : ObjOk X.prog X.w H1 s1.heap dd (.xd [(("part" : Str), v)]) := I1.hok dd _ ea
  obtain ⟨mA, hns, hr⟩ := hx
  obtain ⟨od, ho, hl⟩ := lookIn_ns hns
  have l : List.lookup ("part" : Str) [(("part" : Str), v)] = some v := by simp [List.lookup]
  obtain ⟨u, hu, ru⟩ := RelO.some_of (v := v) (o := mA "part") (by rw [← l]; exact hr "part")
  have J : PySem.W.InstAt s1.heap a oe C (some od) := ⟨ha, hz.1, by unfold PySem.W.notCls; rw [hd] <;> rfl, by rw [hz.2]; exact ho⟩
  exact HandSPX.exc_get I1.kIn J T.ga T.gg T.exC (PySem.W.findObj_own T.hdC T.noN rfl (by rw [hl, hu])) (handed_of ru) ⟨v, H1, I1.tok _, ru, q⟩
end
end L2
namespace PySem
namespace ErrBadNumber
open PySem.W PySem.Calls PyProof.Rows PySem.HandSPX
def iA (p1 p2 : Pos) : Arguments := { posonlyargs := [], args := [{ arg := "self", annotation := none, pos := p1 }, { arg := "number", annotation := none, pos := p2 }], vararg := none, kwonlyargs := [], kw_defaults := [], kwarg := none, defaults := [] }
def iB (q1 q2 q3 q4 : Pos) : List Stmt := [.Assign [.Attribute (.Name "self" q1) "number" q2] (.Name "number" q3) q4]
def iS : Scope := { kind := .function, names := [(PySem.Str.ofString "self", .local), (PySem.Str.ofString "number", .local)], isGenerator := false, isCoroutine := false, more := [] }
/-- what the written part says of Low, at C, and of its __init__, at fI -/
structure LowTxt (K : Frag) (mg : Str → Option Value) (C fI : Addr) : Prop where
  gC : mg "BadNumber" = some (.ref C)
  cls : ∃ nm q N bs bm sn sub ab col dd k0 k1 k2 k3 k5, K.lookup C = some (excClassObj nm q C N bs bm true sn sub ab col dd k0 k1 k2 k3 k5 "ValueError.__new__") ∧ refsVE bm = true
  sa : findIn K (.ref C) "__setattr__" = some (some (.builtin "object.__setattr__"))
  ga : findIn K (.ref C) "__getattribute__" = some (some (.builtin "BaseException.__getattribute__"))
  gg : findIn K (.ref C) "__getattr__" = some none
  noN : findIn K (.ref C) "number" = some none
  iC : findIn K (.ref C) "__init__" = some (some (.ref fI))
  tC : typeIn K (.ref fI) = some (.type "function")
  kC : keepIn K (.ref C) = true
  exC : subIn K (.ref C) (.type "BaseException") = some true
  tyC : typeIn K (.ref C) = some (.type "type")
  hdC : hasDictIn K C = true
  te : exmOne K (.ref C) (.ref C) = some true
  fn : ∃ (oc : Value) (od : Option Addr) (doc pm : Value) (an : Option Addr) (cdv ct : Value) (osl : Array (Option Value)) (p1 p2 q1 q2 q3 q4 : Pos),
    K.lookup fI = some ⟨oc, od, .func (fnOf "__init__" "BadNumber.__init__" (iA p1 p2) (iB q1 q2 q3 q4) iS .none .none doc pm an cdv ct), osl⟩ ∧ codeIn K cdv "BadNumber.__init__" = true
theorem one_size (v : Value) : [v].length ≤ sizeLine := by
  rw [sizeLine_eq]
  exact (by decide : 1 ≤ 16777216)
theorem ldC {M : Model} {s : Shared} {name : Str} {scope : Scope} {L a : Addr} {cd : Value} {m : Str → Option Value} {x : Str} {pos : Pos} {v : Value} {Q : Value → Shared → Prop} {A : Around} {E : Value → Shared → Prop} (hn : s.heap.Ns L m) (hv : m x = some v) (h : Q v s)
    (hk : scope.kind = .function := by rfl) (hl : (envOfC name scope L a cd).kindOf x = some .local := by rfl) (hd : (x == ("__debug__" : Str)) = false := by decide) :
    wpAny M A (eval (.Name x pos) (envOfC name scope L a cd)) Q E s := wpAny_Name (wpAny_loadName_local hk hl hn hv h) hd
/-- what __init__ leaves of a fresh exception at x -/
structure InitEnd (h h' : Heap) (x C dx t1 : Addr) (v : Value) : Prop where
  keep : ∀ b o, b ≠ x → h.get? b = some o → h'.get? b = some o
  obj : h'.get? x = some { cls := .ref C, dict := some dx, data := .fields #[.ref t1, .none, .none, .none, .bool false, .none] }
  dbig : h.objs.size ≤ dx
  dne : dx ≠ x
  ns : h'.Ns1 dx (fun y => if y = "number" then some v else none)
/-- a made Low -/
structure OwnMade (h h' : Heap) (e C d : Addr) (v : Value) : Prop where
  keep : ∀ b o, h.get? b = some o → h'.get? b = some o
  new : h.objs.size ≤ e
  obj : ∃ oe vs, h'.get? e = some oe ∧ oe.cls = .ref C ∧ oe.dict = some d ∧ oe.data = .fields vs ∧ vs[1]? = some .none
  dbig : h.objs.size ≤ d
  dne : d ≠ e
  ns : h'.Ns1 d (fun y => if y = "number" then some v else none)
section
variable {prog : Program} {w : World} {A : Around} {E : Value → Shared → Prop} {R : Result → Shared → Prop} {s : Shared} {K : Frag} {mg : Str → Option Value} {C fI : Addr}
theorem low_init (T : LowTxt K mg C fI) {x t0 : Addr} {v : Value} (X : K.In s.heap) (hlim : s.heap.NoLimit) (hx : s.heap.get? x = some (excO C t0)) (hnx : K.lookup x = none) (hroom : A.depth < recursionLimit)
    (hq : ∀ h' tk dx, InitEnd s.heap h' x C dx t0 v → R (.ok (.ret .none)) { s with heap := h', toks := tk }) :
    codeAny (model prog w) A (.call (.ref fI) ⟨[.ref x, v], []⟩) R s := by
  obtain ⟨oc, od, doc, pm, an, cdv, ct, osl, p1, p2, q1, q2, q3, q4, ho, hcd⟩ := T.fn
  obtain ⟨nm, q, N, bs, bm, sn, sub, ab, col, dd, k0, k1, k2, k3, k5, hC, hbm⟩ := T.cls
  have hcl : clsIn K C = some { name := nm, bases := bs, mro := .ref C :: bm, ns := N, qualname := q, hasDict := true, slotNames := sn, subclasses := sub, abstract := ab, collection := col, hasDel := false } := by unfold clsIn; rw [hC] <;> rfl
  refine Att.call_fn (binds := [("self", .ref x), ("number", v)]) X hlim ho hcd hroom (BindsTo.of_eq (by first | rfl | with_unfolding_all rfl)) (by first | rfl | decide | with_unfolding_all rfl) (fun s₁ IC => ?_) rfl rfl rfl
  obtain ⟨h₁, tk₁, rfl⟩ := IC.toInCall.same
  have k : ∀ b o, s.heap.get? b = some o → h₁.get? b = some o := IC.toInCall.keep
  have hn := IC.toInCall.ns
  have hxL : s.heap.objs.size ≠ x := Nat.ne_of_gt (Heap.lt_size hx)
  have X₁ : K.In h₁ := X.keeps k
  have hx₁ := k _ _ hx
  -- self.by = by
  show wpAny _ _ (execs _ _) _ _ _
  refine wpAny_execs_cons (plainObj_wpAny_Assign_Attribute ?_)
  refine ldC (v := v) hn (by first | rfl | with_unfolding_all rfl | kernel_rfl) (ldC (v := .ref x) hn (by first | rfl | with_unfolding_all rfl | kernel_rfl) ?_)
  refine set_plain X₁ (ox := excO C t0) (od := none) ⟨hx₁, rfl, rfl, trivial⟩ T.sa ?_
  refine exc_osa X₁ hx₁ hcl (show refsVE (.ref C :: bm) = true from hbm) rfl T.noN (fun h₃ tk₃ dx k₃ dn dne hx₃ hn₃ => ?_)
  show wpAny _ _ (execs _ _) _ _ _
  have z : s.heap.objs.size < h₁.objs.size := hn.lt
  exact wpAny_execs_nil (hq h₃ tk₃ dx ⟨fun b o hb e => k₃ b o hb (k b o e), hx₃, Nat.le_of_lt (Nat.lt_of_lt_of_le z dn), dne, hn₃⟩)
theorem low_made (T : LowTxt K mg C fI) {v : Value} (X : K.In s.heap) (hlim : s.heap.NoLimit) (hroom : A.depth + 1 < recursionLimit)
    (hq : ∀ h' tk e d, OwnMade s.heap h' e C d v → R (.ok (.ret (.ref e))) { s with heap := h', toks := tk }) :
    codeAny (model prog w) A (.call (.ref C) ⟨[v], []⟩) R s := by
  obtain ⟨nm, q, N, bs, bm, sn, sub, ab, col, dd, k0, k1, k2, k3, k5, hC, hbm⟩ := T.cls
  obtain ⟨hp, g, dr, tk, os⟩ := s
  have k : ∀ b o, hp.get? b = some o → ((hp.push (kdv_tup [v])).push (excO C hp.objs.size)).get? b = some o := fun b o e => Heap.get?_push_of_some _ (Heap.get?_push_of_some _ e)
  have hget : ((hp.push (kdv_tup [v])).push (excO C hp.objs.size)).get? (hp.objs.size + 1) = some (excO C hp.objs.size) := by heap_get
  have hnx : K.lookup (hp.objs.size + 1) = none := by
    cases e : K.lookup (hp.objs.size + 1) with
    | none => rfl
    | some o =>
      have z : hp.get? (hp.objs.size + 1) = some o := X _ _ e
      exact absurd (Nat.lt_of_succ_lt (Heap.lt_size z)) (Nat.lt_irrefl _)
  refine call_own F.excBase_ValueError (fun X => refsVE_contains X bm hbm) (X _ _ hC) (looks_findIn X T.iC) (fun self => bind_fn X self T.tC) (one_size v) ?_
  refine low_init (s := ⟨(hp.push (kdv_tup [v])).push (excO C hp.objs.size), g, dr, tk, os⟩) T (X.keeps k) (hlim.keeps k) hget hnx ?_ fun h' tk' dx ⟨k', hx, dn, dne, hns⟩ => ?_
  · show A.depth + 1 < recursionLimit
    exact hroom
  · have old : ∀ b o, hp.get? b = some o → h'.get? b = some o := fun b o e => k' b o (Nat.ne_of_lt (Nat.lt_succ_of_lt (Heap.lt_size e))) (k b o e)
    have z : hp.objs.size + 1 + 1 ≤ dx := by
      first
        | (simpa only [Heap.size_push] using dn)
        | exact dn
        | (have q := dn; rw [Heap.size_push, Heap.size_push] at q; exact q)
    exact ⟨rfl, hq h' tk' (hp.objs.size + 1) dx ⟨old, Nat.le_succ _, ⟨_, _, hx, rfl, rfl, rfl, rfl⟩, Nat.le_trans (Nat.le_trans (Nat.le_succ _) (Nat.le_succ _)) z, dne, hns⟩⟩
end
end ErrBadNumber
end PySem
namespace L2
open PySem PySem.Spec PyProof.Rows
theorem relO_low_BadNumber {v : V} {v' : Value} (r : RelV v v') (f : Str) : RelO (List.lookup f [(("number" : Str), v)]) (if f = "number" then some v' else none) := by
  by_cases hw : f = "number"
  · subst hw
    rw [if_pos rfl]
    have q : List.lookup ("number" : Str) [(("number" : Str), v)] = some v := by simp [List.lookup]
    rw [q]
    exact r
  · rw [if_neg hw]
    have qw : (f == ("number" : Str)) = false := by simpa using hw
    have q2 : List.lookup f [(("number" : Str), v)] = none := by simp [List.lookup, qw]
    rw [q2]
    trivial
section
variable {X : Cx} {C fI : Addr}
/-- Low(e) -/
def tMkLow_BadNumber (C : Addr) (ta : TA) : St → Hp → XK → Prop := fun σ H Q => ta σ H fun vs H1 => ∃ v, vs = [v] ∧ ∀ d, H1 d = none → Q (.ref C) (some d) (upd H1 d (.xd [(("number" : Str), v)]))
theorem pmk_low_BadNumber {a : Expr} {ta : TA} {p pos : Pos} {k : Nat} (T : PySem.ErrBadNumber.LowTxt X.K X.mg C fI) (hr : Room k X.A) (ha : PA X [a] ta) (hg : Gl X "BadNumber" := by rfl)
    (he : starEach (a :: []) X.env = (false, eval a X.env) :: starEach [] X.env := by rfl) (hpl : (backTo pos (starEach [] X.env)).any (·.1) = false := by rfl) :
    PMk X (.Call (.Name "BadNumber" p) [a] [] pos) (tMkLow_BadNumber C ta) := by
  intro pins s σ H Q I h
  refine wpAny_Call_Name_kw (ld_glob I hg T.gC ?_)
  refine PySem.W.callWith_K (h₀ := X.base) I.ok.mod.kin T.kC (thn (ha.run pos pins s σ H _ I h) fun us s1 hh => ?_) he hpl
  obtain ⟨vs, H1, I1, r1, v, ev, q1⟩ := hh
  subst ev
  refine ⟨I1.kIn, ?_⟩
  cases r1 with
  | cons rv rn =>
    rename_i v' us'
    cases rn
    show wpAny _ _ (call (.ref C) [v']) _ _ _
    have hlim := I1.nolimit
    obtain ⟨hp, g, dr, tk, os⟩ := s1
    refine wpAny_call (PySem.ErrBadNumber.low_made T I1.kIn hlim (by have := hr.dp; omega) fun h' tk' e d M => ?_)
    show MkP X pins σ Q (.ref e) ⟨h', g, dr, tk', os⟩
    obtain ⟨oe, fv, hoe, hc, hd, hdat, h1⟩ := M.obj
    have hns := M.ns
    obtain ⟨G', g1, g2⟩ := restrict h' fun b => decide (b ≠ e)
    have gk : ∀ b, b ≠ e → G'.get? b = h'.get? b := fun b hb => g1 b (decide_eq_true hb)
    have ge : G'.get? e = none := g2 e (by simp)
    have old : ∀ b o, hp.get? b = some o → G'.get? b = some o := fun b o q => (gk b (Nat.ne_of_lt (Nat.lt_of_lt_of_le (Heap.lt_size q) M.new))).trans (M.keep b o q)
    have ob : ObjOk X.prog X.w (upd H1 d (.xd [(("number" : Str), v)])) G' d (.xd [(("number" : Str), v)]) :=
      ⟨_, hns.at (fun o q => (gk d M.dne).trans q), fun f => relO_low_BadNumber rv f⟩
    have J : Inv X pins σ (upd H1 d (.xd [(("number" : Str), v)])) ⟨G', g, dr, tk', os⟩ := I1.laid (t' := tk') old M.dbig ob
    refine ⟨e, oe, fv, ⟨G', g, dr, tk', os⟩, _, .ref C, some d, rfl, J, fun b o q => ?_, ge, hoe, ⟨hc, hd⟩, hdat, h1, ?_, rfl, I1.bare, raises_own T.exC T.tyC, q1 d (I1.hok.fresh M.dbig)⟩
    · by_cases hb : b = e
      · have q' : G'.get? b = some o := q
        rw [hb, ge] at q'; cases q'
      · exact (gk b hb).symm.trans q
    · rw [upd_ne (Ne.symm M.dne)]
      exact I1.hok.fresh M.new
/-- raise Low(e) -/
def tRaiseLow_BadNumber (C : Addr) (W : WX) (ta : TA) : TS := fun _ σ H => tMkLow_BadNumber C ta σ H fun cls d H' => W cls d σ H'
theorem ps_raiseLow_BadNumber {a : Expr} {ta : TA} {W : WX} {p pos pos2 : Pos} {k : Nat} (hc : X.calm = true) (T : PySem.ErrBadNumber.LowTxt X.K X.mg C fI) (hr : Room k X.A) (tk : Takes X W) (ha : PA X [a] ta) (hg : Gl X "BadNumber" := by rfl)
    (he : starEach (a :: []) X.env = (false, eval a X.env) :: starEach [] X.env := by rfl) (hpl : (backTo pos (starEach [] X.env)).any (·.1) = false := by rfl) :
    PS X (.Raise (some (.Call (.Name "BadNumber" p) [a] [] pos)) none pos2) (tRaiseLow_BadNumber C W ta) := ps_raise hc tk (pmk_low_BadNumber T hr ha hg he hpl)
/-- low.by, low the exception that the suite holds (at a; its class cls, its dict d) -/
def tByLow_BadNumber (C : Addr) (a : Addr) (cls : Value) (d : Option Addr) (te : TE) : TE := fun σ H Q => te σ H fun x H1 => x = .ref a ∧ cls = .ref C ∧ ∃ (dd : Addr) (v : V), d = some dd ∧ H1 dd = some (.xd [(("number" : Str), v)]) ∧ Q v H1
theorem pe_byLow_BadNumber {a : Addr} {oe : Obj} {cls : Value} {d : Option Addr} {pn : List (Addr × Obj)} {e : Expr} {te : TE} {pos : Pos} (T : PySem.ErrBadNumber.LowTxt X.K X.mg C fI) (hz : Zc cls d oe) (hf : ∃ vs, oe.data = .fields vs) (he : PE (X.suite a ((a, oe) :: pn)) e te)
    (hb : attributeBase e "number" X.env (eval e X.env) = eval e X.env := by rfl) :
    PE (X.suite a ((a, oe) :: pn)) (.Attribute e "number" pos) (tByLow_BadNumber C a cls d te) := by
  refine ⟨fun pins s σ H Q I h => ?_⟩
  refine attr_of hb (thn (he.run pins s σ H _ I h) fun u s1 hh => ?_)
  obtain ⟨x, H1, I1, rx, ex, ec, dd, v, ed, ea, q⟩ := hh
  subst ex
  obtain rfl : u = Value.ref a := rx
  subst ec
  subst ed
  obtain ⟨ha, _⟩ := I1.pin (a, oe) (List.mem_append_left _ List.mem_cons_self)
  obtain ⟨vs, hd⟩ := hf
  have hx : ObjOk X.prog X.w H1 s1.heap dd (.xd [(("number" : Str), v)]) := I1.hok dd _ ea
  obtain ⟨mA, hns, hr⟩ := hx
  obtain ⟨od, ho, hl⟩ := lookIn_ns hns
  have l : List.lookup ("number" : Str) [(("number" : Str), v)] = some v := by simp [List.lookup]
  obtain ⟨u, hu, ru⟩ := RelO.some_of (v := v) (o := mA "number") (by rw [← l]; exact hr "number")
  have J : PySem.W.InstAt s1.heap a oe C (some od) := ⟨ha, hz.1, by unfold PySem.W.notCls; rw [hd] <;> rfl, by rw [hz.2]; exact ho⟩
  exact HandSPX.exc_get I1.kIn J T.ga T.gg T.exC (PySem.W.findObj_own T.hdC T.noN rfl (by rw [hl, hu])) (handed_of ru) ⟨v, H1, I1.tok _, ru, q⟩
end
end L2
namespace PySem
namespace ErrBadIndex
open PySem.W PySem.Calls PyProof.Rows PySem.HandSPX
def iA (p1 p2 : Pos) : Arguments := { posonlyargs := [], args := [{ arg := "self", annotation := none, pos := p1 }, { arg := "index", annotation := none, pos := p2 }], vararg := none, kwonlyargs := [], kw_defaults := [], kwarg := none, defaults := [] }
def iB (q1 q2 q3 q4 : Pos) : List Stmt := [.Assign [.Attribute (.Name "self" q1) "index" q2] (.Name "index" q3) q4]
def iS : Scope := { kind := .function, names := [(PySem.Str.ofString "self", .local), (PySem.Str.ofString "index", .local)], isGenerator := false, isCoroutine := false, more := [] }
/-- what the written part says of Low, at C, and of its __init__, at fI -/
structure LowTxt (K : Frag) (mg : Str → Option Value) (C fI : Addr) : Prop where
  gC : mg "BadIndex" = some (.ref C)
  cls : ∃ nm q N bs bm sn sub ab col dd k0 k1 k2 k3 k5, K.lookup C = some (excClassObj nm q C N bs bm true sn sub ab col dd k0 k1 k2 k3 k5 "ValueError.__new__") ∧ refsVE bm = true
  sa : findIn K (.ref C) "__setattr__" = some (some (.builtin "object.__setattr__"))
  ga : findIn K (.ref C) "__getattribute__" = some (some (.builtin "BaseException.__getattribute__"))
  gg : findIn K (.ref C) "__getattr__" = some none
  noN : findIn K (.ref C) "index" = some none
  iC : findIn K (.ref C) "__init__" = some (some (.ref fI))
  tC : typeIn K (.ref fI) = some (.type "function")
  kC : keepIn K (.ref C) = true
  exC : subIn K (.ref C) (.type "BaseException") = some true
  tyC : typeIn K (.ref C) = some (.type "type")
  hdC : hasDictIn K C = true
  te : exmOne K (.ref C) (.ref C) = some true
  fn : ∃ (oc : Value) (od : Option Addr) (doc pm : Value) (an : Option Addr) (cdv ct : Value) (osl : Array (Option Value)) (p1 p2 q1 q2 q3 q4 : Pos),
    K.lookup fI = some ⟨oc, od, .func (fnOf "__init__" "BadIndex.__init__" (iA p1 p2) (iB q1 q2 q3 q4) iS .none .none doc pm an cdv ct), osl⟩ ∧ codeIn K cdv "BadIndex.__init__" = true
end ErrBadIndex
end PySem
namespace L2
open PySem PySem.Spec PyProof.Rows
section
variable {X : Cx} {C fI : Addr}
/-- low.by, low the exception that the suite holds (at a; its class cls, its dict d) -/
def tByLow_BadIndex (C : Addr) (a : Addr) (cls : Value) (d : Option Addr) (te : TE) : TE := fun σ H Q => te σ H fun x H1 => x = .ref a ∧ cls = .ref C ∧ ∃ (dd : Addr) (v : V), d = some dd ∧ H1 dd = some (.xd [(("index" : Str), v)]) ∧ Q v H1
theorem pe_byLow_BadIndex {a : Addr} {oe : Obj} {cls : Value} {d : Option Addr} {pn : List (Addr × Obj)} {e : Expr} {te : TE} {pos : Pos} (T : PySem.ErrBadIndex.LowTxt X.K X.mg C fI) (hz : Zc cls d oe) (hf : ∃ vs, oe.data = .fields vs) (he : PE (X.suite a ((a, oe) :: pn)) e te)
    (hb : attributeBase e "index" X.env (eval e X.env) = eval e X.env := by rfl) :
    PE (X.suite a ((a, oe) :: pn)) (.Attribute e "index" pos) (tByLow_BadIndex C a cls d te) := by
  refine ⟨fun pins s σ H Q I h => ?_⟩
  refine attr_of hb (thn (he.run pins s σ H _ I h) fun u s1 hh => ?_)
  obtain ⟨x, H1, I1, rx, ex, ec, dd, v, ed, ea, q⟩ := hh
  subst ex
  obtain rfl : u = Value.ref a := rx
  subst ec
  subst ed
  obtain ⟨ha, _⟩ := I1.pin (a, oe) (List.mem_append_left _ List.mem_cons_self)
  obtain ⟨vs, hd⟩ := hf
  have hx : ObjOk X.prog X.w H1 s1.heap dd (.xd [(("index" : Str), v)]) := I1.hok dd _ ea
  obtain ⟨mA, hns, hr⟩ := hx
  obtain ⟨od, ho, hl⟩ := lookIn_ns hns
  have l : List.lookup ("index" : Str) [(("index" : Str), v)] = some v := by simp [List.lookup]
  obtain ⟨u, hu, ru⟩ := RelO.some_of (v := v) (o := mA "index") (by rw [← l]; exact hr "index")
  have J : PySem.W.InstAt s1.heap a oe C (some od) := ⟨ha, hz.1, by unfold PySem.W.notCls; rw [hd] <;> rfl, by rw [hz.2]; exact ho⟩
  exact HandSPX.exc_get I1.kIn J T.ga T.gg T.exC (PySem.W.findObj_own T.hdC T.noN rfl (by rw [hl, hu])) (handed_of ru) ⟨v, H1, I1.tok _, ru, q⟩
end
end L2
set_option maxHeartbeats 4000000
namespace Mp
open PySem PySem.Spec PyProof.Rows L2
/-- a clause: its class, and what its suite says of the error at an address, of its class and its dict -/
abbrev Cl := Value × (Addr → Value → Option Addr → TS)
/-- the slot is empty behind the suite -/
def offE (i : Nat) (D : Ends) : Ends := { nx := fun σ2 H2 => D.nx (σ2.set i none) H2, rt := D.rt, bk := fun σ2 H2 => D.bk (σ2.set i none) H2, ct := fun σ2 H2 => D.ct (σ2.set i none) H2 }
/-- the wish of a body under such clauses -/
def wCls (K : PySem.W.Frag) (i : Nat) (D : Ends) : List Cl → WX
  | [] => fun _ _ _ _ => False
  | (k, t) :: r => fun cls d σ H => ∃ b, PySem.W.exmOne K cls k = some b ∧ (b = true → ∀ ea, H ea = none → t ea cls d (offE i D) (σ.set i (some (.ref ea))) H) ∧ (b = false → wCls K i D r cls d σ H)
inductive ClsOk (X : Cx) (n : Str) : List ExceptHandler → List Cl → Prop
  | none_ : ClsOk X n [] []
  | more {x : Str} {k : Value} {t : Addr → Value → Option Addr → TS} {s0 : Stmt} {ss : List Stmt} {p1 p2 : Pos} {hs : List ExceptHandler} {l : List Cl} (nm : Names X x k)
      (su : ∀ (ea : Addr) (eo : Obj) (cls : Value) (d : Option Addr) (pn : List (Addr × Obj)), Zc cls d eo → (∃ vs, eo.data = .fields vs) → PSs (X.suite ea ((ea, eo) :: pn)) (s0 :: ss) (t ea cls d)) (rest : ClsOk X n hs l) :
      ClsOk X n (.ExceptHandler (some (.Name x p1)) (some n) (s0 :: ss) p2 :: hs) ((k, t) :: l)
section
variable {X : Cx} {n : Str} {i : Nat} {body : List Stmt} {e0 : ExceptHandler} {es : List ExceptHandler} {l : List Cl} {pos : Pos} {tb : WX → TS}
theorem ps_try_cls (st : X.stack = X.env :: X.outer) (fr : X.env.frame = some X.env.locals) (nd : X.N.Nodup) (ni : X.N[i]? = some n) (kl : X.env.kindOf n = some .local)
    (bd : ∀ (W : WX) (pn : List (Addr × Obj)) (xe : Value → Shared → Prop), Takes (X.tr pn xe) W → PassesOwn (model X.prog X.w) X.A X.env xe → PSs (X.tr pn xe) body (tb W))
    (ok : ClsOk X n (e0 :: es) l) : PS X (.Try body (e0 :: es) [] [] pos) (fun D σ H => tb (wCls X.K i D l) D σ H) := by
  refine ⟨fun pins s σ H D I h => ?_⟩
  have iok := I.ok
  have frs0 : X.A.frames = some (X.env :: X.outer) := by rw [iok.frames, st]
  have lcl : Loc X.env.scope n := .inl kl
  refine wpAny_Try_except ?_
  refine wpAny_mono ((bd (wCls X.K i D l) (X.pn ++ pins) (fun ev t1 => wpAny (model X.prog X.w) X.A (noteFrame ev X.env) (fun _ t2 => wpAny (model X.prog X.w) X.A (setFlight ev none) (fun _ t3 => wpAny (model X.prog X.w) X.A (handleBy ev X.env (e0 :: es)) (SP X pins D) X.xe t3) X.xe t2) X.xe t1)
    (fun u s' xx => ?_) PassesOwn.looking).run [] s σ H D (I.toTry _) h) (fun fl s1 hsp => ?_) (fun ev s1 he => he)
  · obtain ⟨ea, B, sI, pins', σ', H', cls, d, rfl, J', nb, up, sky, na, os, ag, w⟩ := xx
    have J : Inv X pins σ' H' sI := J'.ofTry iok
    have sky2 : Sky B (X.env :: X.outer) ea (Zc cls d) X.env.locals s'.heap := by rw [← st]; exact sky
    show wpAny (model X.prog X.w) X.A (noteFrame (.ref ea) X.env) _ _ _
    refine Sky.land Zc.steady frs0 fr sky2 fun h3 fl3 up3 => ?_
    have J3 : Inv X pins σ' H' { s' with heap := h3 } := J.landed nb fl3.1 (up.trans up3) os ag
    obtain ⟨eo3, vs3, he3, hz3, hd3⟩ := fl3.there
    have apart : ea ∉ frs (X.env :: X.outer) := fun hm => by
      obtain ⟨_, o2, q2, nf⟩ := fl3.2.2.1.mem hm
      rw [he3] at q2; cases q2
      exact nf _ hd3
    have nL : ea ≠ X.env.locals := fun z => apart (List.mem_filterMap.mpr ⟨X.env, List.mem_cons_self, by rw [fr, z]⟩)
    have nF : ea ∉ X.fs := fun hm => by
      obtain ⟨en, hen, q⟩ := List.mem_filterMap.mp hm
      exact apart (List.mem_filterMap.mpr ⟨en, List.mem_cons_of_mem _ hen, q⟩)
    have S3 := J3.suite he3 hd3 na nL nF
    have LT : PySem.W.Looks (model X.prog X.w) h3 (typeOf (.ref ea)) cls := fun A Q E t k q => wpAny_typeOf_ref (k _ _ he3) (by rw [hz3.1]; exact q)
    have go : ∀ {hs2 : List ExceptHandler} {l2 : List Cl}, ClsOk X n hs2 l2 → wCls X.K i D l2 cls d σ' H' → wpAny (model X.prog X.w) X.A (handleBy (.ref ea) X.env hs2) (SP X pins D) X.xe { s' with heap := h3 } := by
      intro hs2 l2 hk
      induction hk with
      | none_ => intro w; exact w.elim
      | @more x k t s0 ss p1 p2 hs l nm su rest ih =>
        intro w
        obtain ⟨b, hb1, yes, no⟩ := w
        refine wpAny_handleBy_cons (codeAny_handlers_test ?_) (by intro q; cases q)
        have LM := PySem.W.exm_one (M := model X.prog X.w) (J3.kIn) LT hb1
        have tst : ∀ {Q : Value → Shared → Prop} {E : Value → Shared → Prop}, Q k { s' with heap := h3 } → wpAny (model X.prog X.w) (X.A.mark (some (.ref ea))) (eval (.Name x p1) X.env) Q E { s' with heap := h3 } := fun {Q E} q => by
          obtain ⟨hg, hdbg, hm | ⟨hm, hv, hnn⟩⟩ := nm
          · exact ld_glob (X := X.suite ea ((ea, eo3) :: (X.pn ++ pins))) S3 hg hm q hdbg
          · exact ld_blt (X := X.suite ea ((ea, eo3) :: (X.pn ++ pins))) S3 hg hm hv q hnn hdbg
        refine tst (LM.here ?_)
        cases b with
        | false =>
          show wpAny _ X.A (handleBy (.ref ea) X.env hs) _ _ _
          exact ih (no rfl)
        | true =>
          refine codeAny_handlers_suite_as ?_
          refine HandSPX.lands_againZ fl3 fun h4 fl4 up4 => ?_
          have J4 : Inv X pins σ' H' { s' with heap := h4 } := J.landed nb fl4.1 ((up.trans up3).trans up4) os ag
          obtain ⟨eo4, vs4, he4, hz4, hd4⟩ := fl4.there
          have S4 := J4.suite he4 hd4 na nL nF
          refine store_ok (X := X.suite ea ((ea, eo4) :: (X.pn ++ pins))) (v := .ref ea) S4 nd ni lcl rfl (fun s5 S5 => ?_) (.inr kl)
          refine wpAny_mono ((su ea eo4 cls d (X.pn ++ pins) hz4 ⟨_, hd4⟩).run [] s5 _ H' _ S5 (yes rfl ea na)) (fun fl s6 hsp => ?_) (fun _ _ z => False.elim z)
          have fin : ∀ {σ6 : L2.St} {H6 : Hp} {Q : Shared → Prop}, Inv (X.suite ea ((ea, eo4) :: (X.pn ++ pins))) [] σ6 H6 s6 → (∀ s7, Inv X pins (σ6.set i none) H6 s7 → Q s7) →
              wpAny (model X.prog X.w) X.A (do bindName X.env n .none; unbindBehindTheSuite X.env n p2) (fun _ s7 => Q s7) X.xe s6 := fun {σ6 H6 Q} S6 hq => gone_ok (S6.unsuite iok) nd ni kl hq
          cases fl with
          | next => obtain ⟨σ6, H6, S6, q6⟩ := hsp; exact fin S6 fun s7 J7 => ⟨_, _, J7, q6⟩
          | brk => obtain ⟨σ6, H6, S6, q6⟩ := hsp; exact fin S6 fun s7 J7 => ⟨_, _, J7, q6⟩
          | cont => obtain ⟨σ6, H6, S6, q6⟩ := hsp; exact fin S6 fun s7 J7 => ⟨_, _, J7, q6⟩
          | ret u => obtain ⟨v6, σ6, H6, S6, r6, q6⟩ := hsp; exact fin S6 fun s7 J7 => ⟨_, _, _, J7, r6, q6⟩
    exact go ok w
  · cases fl with
    | next => obtain ⟨σ', H', J', q⟩ := hsp; exact wpAny_execs_nil ⟨σ', H', J'.ofTry iok, q⟩
    | brk => obtain ⟨σ', H', J', q⟩ := hsp; exact ⟨σ', H', J'.ofTry iok, q⟩
    | cont => obtain ⟨σ', H', J', q⟩ := hsp; exact ⟨σ', H', J'.ofTry iok, q⟩
    | ret u => obtain ⟨v, σ', H', J', r, q⟩ := hsp; exact ⟨v, σ', H', J'.ofTry iok, r, q⟩
end
end Mp
set_option maxHeartbeats 4000000
namespace Mp
open PySem PySem.Spec PyProof.Rows L2
variable [GdW]
/-- an empty table's object -/
abbrev tab0 : Obj := { cls := .none, data := .fields #[] }
/-- the list that is handed in -/
abbrev lst0 (vs : List Value) : Obj := { cls := .type "list", data := .seq vs.toArray }
theorem tab_lst {vs : List Value} (z : some (lst0 vs) = some tab0) : False := by
  have q : Data.seq vs.toArray _ = Data.fields #[] := congrArg Obj.data (Option.some.inj z)
  cases q
section
variable {P : Program} {w : World} {K : PySem.W.Frag} {mg mb : Str → Option Value} {CX : CXT} {k : Nat} {fa a : Addr} {ts : List (Addr × Addr)} {fd : FuncData} {x : Str} {sp : Sp} {s1 : Shared} {vs : List Value} {ns : List Int}
/-- what stands in the abstract heap at the law's start: the script, if the top has not written it, and the tables -/
structure At0 (H : Hp) (P : Program) (w : World) (K : PySem.W.Frag) (s1 : Shared) (ts : List (Addr × Addr)) (a : Addr) (ns : List Int) : Prop where
  tabs : ∀ p ∈ ts, H p.2 = some (.tbl #[])
  all : ∀ b, H b = none ∨ b ∈ ts.map (·.2) ∨ ∃ o xs, H b = some (.frz o (.lst xs))
  scr : SqL K H a (ns.map V.int)
  hok : HOk P w H s1.heap
  only : ∀ b, H b ≠ none → b = a ∨ b ∈ ts.map (·.2)
  new : H a ≠ none → K.lookup a = none
theorem law_goT (KX : K.In s1.heap) (nsg : s1.heap.Ns mainGlobals mg) (nsb : s1.heap.Ns builtinsNs mb) (bb : ∀ x : Str, x ≠ "__name__" → mb x = bootBuiltins x) (lim : s1.heap.NoLimit) (gs : s1.gens = #[])
    (tT : ∀ p ∈ ts, s1.heap.get? p.2 = some tab0) (tK : ∀ p ∈ ts, K.lookup p.2 = none) (tC : ∀ p ∈ ts, PySem.W.CodeHd s1.heap p.1 p.2)
    (bmn : ∃ (bm : Addr) (ob : Obj), mg "__builtins__" = some (.ref bm) ∧ bm ≠ builtinsNs ∧ s1.heap.get? bm = some ob ∧ ob.cls = .type "module" ∧ ob.dict = some builtinsNs ∧ ob.data = .plain)
    (ha : s1.heap.get? a = some (lst0 vs)) (room : Room k callerA)
    (F : ∀ base : Heap, K.In base → base.Ns mainGlobals mg → (∀ p ∈ ts, LamX.TabB base mg p.1 p.2) → FnOk P w K mg base CX k fa fd [x] sp) (bnd : ∀ (s : Shared) (u : Value), BindsTo s fd ⟨[u], []⟩ [(x, u)])
    (noX : ∀ H e s', CX [] H s1 (fun _ _ _ => False) e s' → False) {H : Hp} (Z : At0 H P w K s1 ts a ns) (want : sp [.ref a] H (fun v _ => v = .bl true) fun _ _ _ => False) :
    codeAny (model P w) callerA (.call (.ref fa) ⟨[.ref a], []⟩) (fun r s' => r = .ok (.ret (.bool true)) ∧ OldK s1.heap s'.heap ∧ s'.os = s1.os ∧ AllBare s'.gens) s1 := by
  have inT : ∀ b : Addr, b ∈ ts.map (·.2) → s1.heap.get? b = some tab0 := fun b hb => by
    obtain ⟨p, hp, rfl⟩ := List.mem_map.mp hb
    exact tT p hp
  have noS : ∀ {b : Addr} {o : Obj}, s1.heap.get? b = some o → (∀ l n, o.data ≠ .seq l n) → o.data ≠ .fields #[] → H b = none := fun {b o} e n1 n2 => by
    cases q : H b with
    | none => rfl
    | some u =>
      rcases Z.only b (by rw [q]; simp) with z | z
      · rw [z, ha] at e; cases e; exact (n1 _ _ rfl).elim
      · rw [inT b z] at e; cases e; exact (n2 rfl).elim
  have noD : ∀ {b : Addr} {o : Obj} {es : Array DictEntry} {ep : Nat}, s1.heap.get? b = some o → o.data = .dict es ep → H b = none := fun {b o es ep} e d =>
    noS e (fun l n z => by rw [d] at z; cases z) fun z => by rw [d] at z; cases z
  have hide : ∀ {b : Addr} {m : Str → Option Value}, s1.heap.Ns b m → (hidT s1.heap H).Ns b m := fun {b m} ⟨o, es, ep, e, d, r⟩ => ⟨o, es, ep, hidT_get e (noD e d), d, r⟩
  have KH : K.In (hidT s1.heap H) := fun b o e => hidT_get (KX b o e) (by
    cases q : H b with
    | none => rfl
    | some u =>
      rcases Z.only b (by rw [q]; simp) with z | z
      · rw [z] at e q; rw [Z.new (by rw [q]; simp)] at e; cases e
      · obtain ⟨p, hp, ep⟩ := List.mem_map.mp z
        rw [← ep, tK p hp] at e; cases e)
  have MH : L2.Mod K mg (hidT s1.heap H) := ⟨KH, hide nsg, ⟨mb, hide nsb, bb⟩, let ⟨mc, h1, h2⟩ := lim; ⟨mc, hide h1, h2⟩⟩
  have TB : ∀ p ∈ ts, LamX.TabB (hidT s1.heap H) mg p.1 p.2 := fun p hp => by
    refine ⟨?_, ?_, fun z => ?_⟩
    · obtain ⟨o, us, file, tf, flags, tg, inF, text, tt, e1, r1, r2, r3, r4, r5, r6, r7, r8, hne⟩ := tC p hp
      exact ⟨o, us, file, tf, flags, tg, inF, text, tt, hidT_get e1 (noS e1 (fun l n z => by rw [r2] at z; cases z) fun z => by rw [r2] at z; cases z; simp at r3), r1, r2, r3, r4, r5, r6, r7, r8, hne⟩
    · obtain ⟨bm, ob, b1, b2, b3, b4, b5, b6⟩ := bmn
      have nG : bm ≠ mainGlobals := fun q => by
        obtain ⟨o, es, ep, e, hd, _⟩ := nsg
        rw [q, e] at b3; cases b3; rw [hd] at b6; cases b6
      have nP : bm ≠ p.2 := fun q => by rw [q, tT p hp] at b3; cases b3; cases b6
      exact ⟨bm, ob, b1, b2, nG, nP, hidT_get b3 (noS b3 (fun l n z => by rw [b6] at z; cases z) fun z => by rw [b6] at z; cases z), b4, b5, b6⟩
    · obtain ⟨o, es, ep, e, hd, _⟩ := nsg
      rw [z, tT p hp] at e; cases e; cases hd
  have e0 : Env0 P w K mg (hidT s1.heap H) callerA [] s1 H := ⟨rfl, MH, fun b o e => of_hidT e, Nat.le_of_eq (hidT_size _ _), trivial, (fun b hb => absurd hb (by simp [frs])), Z.hok, .of_eq gs⟩
  refine codeAny_mono ((F _ KH (hide nsg) TB).go callerA [] s1 H ⟨[.ref a], []⟩ [.ref a] [.ref a] _ _ room e0 (bnd s1 (.ref a)) (.cons rfl .nil) want) fun r s' h => ?_
  match r, h with
  | .error e, h => exact (noX H e s' h).elim
  | .ok .next, h => exact h.elim
  | .ok .brk, h => exact h.elim
  | .ok .cont, h => exact h.elim
  | .ok (.ret u), ⟨v, H', os, bare, un, hok2, r2, q⟩ =>
    have q2 : v = .bl true := q
    subst q2
    obtain rfl : u = Value.bool true := r2
    have kept : ∀ b o, b ∉ ts.map (·.2) → s1.heap.get? b = some o → s'.heap.get? b = some o := fun b o nb e => by
      cases q : H b with
      | none => exact un.keep b o e q (by intro z; cases z) (by simp)
      | some u =>
        rcases Z.all b with z | z | ⟨ob, xs, z⟩
        · rw [q] at z; cases z
        · exact absurd z nb
        · obtain ⟨e1, _⟩ := Z.hok b _ z
          obtain ⟨e2, _⟩ := hok2 b _ (un.frzs b ob _ z)
          rw [e] at e1; cases e1
          exact e2
    have grown : ∀ p ∈ ts, ∃ more : Array Value, s'.heap.get? p.2 = some { cls := .none, data := .fields more } := fun p hp => by
      obtain ⟨more, z⟩ := un.tbls p.2 #[] (Z.tabs p hp)
      exact ⟨_, hok2 p.2 _ z⟩
    refine ⟨rfl, ⟨fun b o e => ?_, fun b o e => ?_⟩, os, bare⟩
    · by_cases hb : b ∈ ts.map (·.2)
      · obtain ⟨p, hp, rfl⟩ := List.mem_map.mp hb
        obtain ⟨more, hm⟩ := grown p hp
        rw [tT p hp] at e; cases e
        exact .inr (.inl ⟨((tC p hp).tab (tT p hp)).isCodeTable, rfl, #[], more, rfl, by rw [Array.empty_append]; exact hm⟩)
      · exact .inl (kept b o hb e)
    · by_cases hb : b ∈ ts.map (·.2)
      · obtain ⟨p, hp, rfl⟩ := List.mem_map.mp hb
        obtain ⟨more, hm⟩ := grown p hp
        exact ⟨_, hm⟩
      · exact ⟨o, kept b o hb e⟩
/-- such a heap there is -/
theorem at0_is (KX : K.In s1.heap) (tT : ∀ p ∈ ts, s1.heap.get? p.2 = some tab0) (ha : s1.heap.get? a = some (lst0 vs)) (hi : IntsAre vs ns) (hl : ns.length ≤ sizeLine) : ∃ H : Hp, At0 H P w K s1 ts a ns := by
  have rv := vals_ints hi
  have lv := hi.length
  have inT : ∀ b : Addr, b ∈ ts.map (·.2) → s1.heap.get? b = some tab0 := fun b hb => by
    obtain ⟨p, hp, rfl⟩ := List.mem_map.mp hb
    exact tT p hp
  have aT : a ∉ ts.map (·.2) := fun z => tab_lst (ha.symm.trans (inT a z))
  have mem : ∀ p ∈ ts, p.2 ∈ ts.map (·.2) := fun p hp => List.mem_map.mpr ⟨p, hp, rfl⟩
  cases hk : K.lookup a with
  | some o =>
    have e := KX a o hk
    rw [ha] at e; cases e
    refine ⟨fun b => if b ∈ ts.map (·.2) then some (.tbl #[]) else none, fun p hp => if_pos (mem p hp), fun b => ?_, .inr ⟨_, vs.toArray, _, hk, rfl, rfl, rfl, by rw [List.size_toArray, lv]; exact hl, by simpa using rv⟩, fun b u z => ?_, fun b z => ?_, fun z => absurd (if_neg aT) z⟩
    · by_cases hb : b ∈ ts.map (·.2)
      · exact .inr (.inl hb)
      · exact .inl (if_neg hb)
    · by_cases hb : b ∈ ts.map (·.2)
      · have z2 := (if_pos hb).symm.trans z; cases z2; exact inT b hb
      · have z2 := (if_neg hb).symm.trans z; cases z2
    · by_cases hb : b ∈ ts.map (·.2)
      · exact .inr hb
      · exact absurd (if_neg hb) z
  | none =>
    refine ⟨fun b => if b = a then some (.frz (lst0 vs) (.lst (ns.map V.int))) else if b ∈ ts.map (·.2) then some (.tbl #[]) else none, fun p hp => (if_neg (show ¬ p.2 = a from fun z => aT (by rw [← z]; exact mem p hp))).trans (if_pos (mem p hp)), fun b => ?_, .inl (.inr ⟨lst0 vs, if_pos rfl⟩), fun b u z => ?_, fun b z => ?_, fun _ => hk⟩
    · by_cases hb : b = a
      · exact .inr (.inr ⟨_, _, if_pos hb⟩)
      · by_cases hb2 : b ∈ ts.map (·.2)
        · exact .inr (.inl hb2)
        · exact .inl ((if_neg hb).trans (if_neg hb2))
    · by_cases hb : b = a
      · have z2 := (if_pos hb).symm.trans z; cases z2; rw [hb]
        exact ⟨ha, by rw [List.length_map]; exact hl, vs, _, rv, ha⟩
      · have z1 := (if_neg hb).symm.trans z
        by_cases hb2 : b ∈ ts.map (·.2)
        · have z2 := (if_pos hb2).symm.trans z1; cases z2; exact inT b hb2
        · have z2 := (if_neg hb2).symm.trans z1; cases z2
    · by_cases hb : b = a
      · exact .inl hb
      · by_cases hb2 : b ∈ ts.map (·.2)
        · exact .inr hb2
        · exact absurd ((if_neg hb).trans (if_neg hb2)) z
end
/-- what is known of the law's promise where the call starts: the tables of the defs that make lambdas, and the promise over them -/
def LawG (l : PySem.W.OpenLaw) (w : World) (K : PySem.W.Frag) (CX : CXT) (k n : Nat) (x : Str) (mg : Str → Option Value) (fa : Addr) (h : Heap) : Prop :=
  ∃ (fd : FuncData) (ts : List (Addr × Addr)) (sp : Sp), (∀ p ∈ ts, h.get? p.2 = some tab0) ∧ (∀ p ∈ ts, K.lookup p.2 = none) ∧ (∀ p ∈ ts, PySem.W.CodeHd h p.1 p.2) ∧ (∀ (s : Shared) (u : Value), BindsTo s fd ⟨[u], []⟩ [(x, u)]) ∧
    (∀ (H : Hp) (a : Addr) (ns : List Int), ns.length ≤ n → (∀ p ∈ ts, H p.2 = some (.tbl #[])) → SqL K H a (ns.map V.int) → sp [.ref a] H (fun v _ => v = .bl true) fun _ _ _ => False) ∧
    ∀ base : Heap, K.In base → base.Ns mainGlobals mg → (∀ p ∈ ts, LamX.TabB base mg p.1 p.2) → FnOk l.prog w K mg base CX k fa fd [x] sp
theorem walkG {l : PySem.W.OpenLaw} {n k : Nat} {q : Program} {loose : List Str} {XP : (Str → Option Value) → Heap → Prop} {YP : World → Heap → Prop} {d : DefRec} {K : Params → PySem.W.Frag} {x : Str}
    (hn : l.most = some n) (hn2 : n ≤ sizeLine) (hdf : d.params.defaults = []) (hr : Room k callerA) (hY : ∀ (w : World) (h : Heap), YP w h → (K w.params).In h)
    (F : ∀ (w : World) (mg mb : Str → Option Value) (fa : Addr) (h : Heap) (s₀ : Shared), PySem.W.Ground q loose [] XP w s₀ mg mb h → YP w h → (K w.params).In h → h.Ns mainGlobals mg → mg d.name = some (.ref fa) → LawG l w (K w.params) (L2.CX l.prog w) k n x mg fa h) :
    PySem.W.WalkO q loose XP YP l.row.toRowW d [] (fun f vs => PySem.call f vs) := by
  refine _root_.Att.attach_callB hn hdf fun w s₀ s₁ mg mb fa o pm cd doc a vs ns G Y ho hd hcd hmg hobj hints hlen hbits hg => ?_
  have KX := hY w _ Y
  obtain ⟨fd, ts, sp, tT, tK, tC, bnd, want, ok⟩ := F w mg mb fa _ s₀ G Y KX G.T.g hmg
  obtain ⟨H, Z⟩ := at0_is (P := l.prog) (w := w) (K := K w.params) (ts := ts) KX tT hobj hints (Nat.le_trans hlen hn2)
  exact law_goT KX G.T.g G.T.b G.T.builtins G.T.nolimit hg tT tK tC G.T.bmain hobj hr ok bnd (fun _ _ _ ⟨_, _, _, _, _, _, _, _, _, _, _, _, z⟩ => z) Z (want H a ns hlen Z.tabs Z.scr)
/-- a def's code object and its table, empty at the start -/
theorem tab_at {q : Program} {loose : List Str} {XP : (Str → Option Value) → Heap → Prop} {w : World} {s₀ : Shared} {mg mb : Str → Option Value} {h : Heap} {K : PySem.W.Frag} {d : DefRec} {x : Str} {c P : Addr} (G : PySem.W.Ground q loose [] XP w s₀ mg mb h) (X : K.In h) (hr : (recsOf q).find? (fun e => e.name == x) = some d) (ht : PySem.W.tabIn K x = some (c, P)) :
    PySem.W.CodeHd h c P ∧ h.get? P = some tab0 := PySem.W.tab_of G.T X hr ht
end Mp
set_option maxHeartbeats 4000000
namespace Mp
open PySem PySem.Spec PyProof.Rows L2
/-- repr(x): x's data and how it is shown -/
def rRepr (K : PySem.W.Frag) (A : Around) : List V → Hp → VK → Prop := fun xs H Q => ∃ (x : V) (p : PyData), xs = [x] ∧ Dp K H x p ∧ p.showable = true ∧ p.hasDict = false ∧ (∀ i, p = .int i → i.natAbs.log2 < 1920) ∧ p.shown.length ≤ sizeLine ∧ A.units + (p.depth + 1) < cLine ∧ Q (.str p.shown) H
section
variable {X : Cx}
theorem call_repr (hg : X.A.guards = some []) : CallR X (.builtin "repr") (rRepr X.K X.A) := by
  intro pins s σ H xs us Q I r h
  obtain ⟨x, p, rfl, dp, hs, hd, hi, hz, hu, q⟩ := h
  obtain ⟨u, rfl, ru⟩ := vals1 r
  obtain ⟨as, rd⟩ := Dp.reads I p x u dp ru
  have viaR : ∀ a : Addr, u = .ref a → wpAny (model X.prog X.w) X.A (call (.builtin "repr") [u]) (EP X pins σ Q) X.xe s := fun a e => by
    subst e
    exact repr_of_reads' rd hs (fun z => by rw [hd] at z; cases z) hg hu (fun _ _ e => e) (fun h' v tk hk => ⟨.str p.shown, H, I.kept hk, ⟨v, rfl⟩, q⟩) hz
  cases dp with
  | non => cases ru; exact PySem.P.repr_of_none ⟨.str _, H, I.tok _, ⟨_, rfl⟩, q⟩
  | bl b => cases ru; exact PySem.P.repr_of_bool ⟨.str _, H, I.tok _, ⟨_, by cases b <;> rfl⟩, q⟩
  | int i =>
    obtain ⟨t, rfl⟩ := ru
    exact PySem.P.repr_of_int (hi i rfl) ⟨.str _, H, I.tok _, ⟨_, rfl⟩, q⟩
  | str a =>
    obtain ⟨t, rfl⟩ := ru
    exact PySem.P.repr_of_str ⟨.str _, H, I.tok _, ⟨_, rfl⟩, q⟩ hz
  | _ => exact viaR _ ru
end
end Mp
set_option maxHeartbeats 4000000
namespace Mp
open PySem PySem.Spec PyProof.Rows L2
variable [TabsW] [GdW]
theorem showB_of {p : PyData} (h : showB p = true) : p.showable = true ∧ p.hasDict = false ∧ (∀ i, p = .int i → i.natAbs.log2 < 1920) ∧ p.shown.length ≤ BIG ∧ p.depth ≤ 60 := by
  unfold showB at h
  simp only [Bool.and_eq_true, Bool.not_eq_true', decide_eq_true_eq] at h
  obtain ⟨⟨⟨⟨h1, h2⟩, h3⟩, h4⟩, h5⟩ := h
  refine ⟨h1, h2, fun i e => ?_, h4, h5⟩
  subst e
  simpa using h3
theorem dp_top {K : PySem.W.Frag} {H : Hp} {M : AS} {d : D} {x : V} {p : PyData} (r : RepT K H M d x) (t : toPy d = some p) : Dp K H x p := dp_of d x p r.loose t
/-- repr of data -/
theorem s_repr {k : Nat} {K : PySem.W.Frag} {A : Around} (hr : L2.Room k A) : CaS K (rRepr K A) (bltD .repr) := by
  intro M xs H ps z Q r hM e kk
  obtain ⟨d, x, rfl, rfl, rd⟩ := one_of r e rfl (fun a b c => by cases a <;> rfl)
  have e : reprD d = some z := e
  unfold reprD at e
  cases h : toPy d with
  | none => rw [h] at e; cases e
  | some p =>
    rw [h] at e
    dsimp only at e
    by_cases hs : showB p = true
    · rw [if_pos hs] at e; cases e
      obtain ⟨h1, h2, h3, h4, h5⟩ := showB_of hs
      have hz : sizeLine = 16777216 := sizeLine_eq
      have hu := hr.units
      exact ⟨x, p, rfl, dp_top rd h, h1, h2, h3, by unfold BIG at h4; omega, by omega, kk _ _ Stp.refl (by unfold Rep; rfl)⟩
    · rw [if_neg hs] at e; cases e
def tellV (K : PySem.W.Frag) (H : Hp) (rep : Bool) (v w : V) : Prop := match rep with
  | true => ∃ p, Dp K H v p ∧ showB p = true ∧ w = .str p.shown
  | false => w = v
/-- the error is c's, and what is told of it -/
def saidC (K : PySem.W.Frag) (c : HC) (cls : Value) (d : Option Addr) (H : Hp) (Q : VK) : Prop :=
  cls = .ref (clsAt K c.C) ∧ ∃ (dd : Addr) (v w : V), d = some dd ∧ H dd = some (.xd [(c.f, v)]) ∧ tellV K H c.rep v w ∧ ∀ l, H l = none → Q (.ref l) (upd H l (.lst [.str c.lab, w]))
def wHC (K : PySem.W.Frag) : List HC → Value → Option Addr → Hp → VK → Prop
  | [], _, _, _, _ => False
  | c :: cs, cls, d, H, Q => ∃ b, PySem.W.exmOne K cls (.ref (clsAt K c.C)) = some b ∧ (b = true → saidC K c cls d H Q) ∧ (b = false → wHC K cs cls d H Q)
def THeard (K : PySem.W.Frag) (cs : List HC) : (XK → Hp → VK → Prop) → Hp → VK → Prop := fun tl H Q => tl (fun cls d H' => wHC K cs cls d H' Q) H (fun _ H' => Q .non H')
/-- what a clause's suite says -/
def clT (K : PySem.W.Frag) (i : Nat) (c : HC) : Addr → Value → Option Addr → TS := fun ea cls d D σ H => (i < σ.length → σ[i]? = some (some (.ref ea))) ∧ saidC K c cls d H D.rt
def clOf (K : PySem.W.Frag) (i : Nat) (c : HC) : Cl := (.ref (clsAt K c.C), clT K i c)
theorem wHC_cls {K : PySem.W.Frag} {i : Nat} {D : Ends} {cls : Value} {d : Option Addr} {σ : L2.St} {H : Hp} : ∀ {cs : List HC}, wHC K cs cls d H D.rt → wCls K i D (cs.map (clOf K i)) cls d σ H
  | [], h => h.elim
  | c :: cs, h => by
    obtain ⟨b, h1, h2, h3⟩ := h
    exact ⟨b, h1, fun hb ea _ => ⟨fun hi => List.getElem?_set_self (by simpa using hi), h2 hb⟩, fun hb => wHC_cls (h3 hb)⟩
/-- e.f, e the error of a suite -/
def tBy (C : Addr) (f : Str) (a : Addr) (cls : Value) (d : Option Addr) (te : TE) : TE := fun σ H Q => te σ H fun x H1 => x = .ref a ∧ cls = .ref C ∧ ∃ (dd : Addr) (v : V), d = some dd ∧ H1 dd = some (.xd [(f, v)]) ∧ Q v H1
section
variable {Y : Cx} {c : HC} {i : Nat} {n : Str} {ea : Addr} {eo : Obj} {cls : Value} {d : Option Addr} {pn : List (Addr × Obj)} {p1 p2 p3 p4 p5 p6 p7 : Pos} {j : Nat}
theorem cl_rep {k : Nat} (hrep : c.rep = true) (by_ : PE (Y.suite ea ((ea, eo) :: pn)) (.Attribute (.Name n p1) c.f p2) (tBy (clsAt Y.K c.C) c.f ea cls d (tVar i))) (hi : i < Y.N.length) (hgd : Y.A.guards = some []) (hu : Y.A.units + 64 < cLine) (hg : Gl Y "repr") (hm : Y.mg "repr" = none) :
    PSs (Y.suite ea ((ea, eo) :: pn)) [.Return (some (.List [.Constant (.str c.lab) j p3, .Call (.Name "repr" p4) [.Attribute (.Name n p1) c.f p2] [] p5] p6)) p7] (clT Y.K i c ea cls d) := by
  have cr : CallR (Y.suite ea ((ea, eo) :: pn)) (.builtin "repr") (rRepr Y.K Y.A) := call_repr (X := Y.suite ea ((ea, eo) :: pn)) hgd
  have pr := pss_one (ps_ret (pos := p7) (pe_lst (pos := p6) (pa_cons (pe_str (X := Y.suite ea ((ea, eo) :: pn)) (x := c.lab) (j := j) (pos := p3)) (pa_cons (pe_callB (p := p4) (pos := p5) cr hg hm rfl (pa_cons by_ pa_nil)) pa_nil))))
  refine ⟨fun pins s σ H D I h => pr.run pins s σ H D I ?_⟩
  obtain ⟨h0, h1, dd, v, w, h2, h3, h4, h5⟩ := h
  have hl : σ.length = Y.N.length := I.len
  rw [hrep] at h4
  obtain ⟨p, q1, q2, rfl⟩ := h4
  obtain ⟨g1, g2, g3, g4, g5⟩ := showB_of q2
  have hz : sizeLine = 16777216 := sizeLine_eq
  refine ⟨.ref ea, h0 (by rw [hl]; exact hi), rfl, h1, dd, v, h2, h3, v, p, rfl, q1, g1, g2, g3, by unfold BIG at g4; omega, ?_, ?_, ?_⟩
  · have : (Y.suite ea ((ea, eo) :: pn)).A.units = Y.A.units := rfl
    omega
  · show 2 ≤ sizeLine
    omega
  · exact h5
end
end Mp
set_option maxHeartbeats 4000000
namespace Mp
open PySem PySem.Spec PyProof.Rows L2
variable [TabsW] [GdW]
section
variable {X : Cx}
/-- try: call() / except .. as e: return .. / return None -/
theorem heard_gives {cs : List HC} {Ng : List Str} {x a e q : Str} {sg : Scope} {g : Addr} {cdg : Value} {j : Nat} {i : Nat} {e0 : ExceptHandler} {es : List ExceptHandler} {p1 p2 p3 p5 p6 p8 : Pos}
    (nd : Ng.Nodup) (ni : Ng[i]? = some e) (kl : sg.names.lookup e = some .local) (h0 : ∀ f : Addr, (L2.start Ng [V.ref f])[0]? = some (some (V.ref f)))
    (ok : ∀ (s : Shared) (H : Hp), ClsOk (cxOf C8.CX0 X.prog X.w X.K X.mg X.base Ng x sg g cdg X.A X.stack s H C8.E0).nox e (e0 :: es) (cs.map (clOf X.K i))) :
    LamX.GivesTo X Ng x sg g cdg [.Try [.Expr (.Call (.Name a p1) [] [] p2) p3] (e0 :: es) [] [] p8, .Return (some (.Constant .none j p5)) p6] a q (THeard X.K cs) := by
  intro f c' s H Q tl act hc h
  have st := ps_try_cls (X := (cxOf C8.CX0 X.prog X.w X.K X.mg X.base Ng x sg g cdg X.A X.stack s H C8.E0).nox) (n := e) (i := i) (pos := p8) (l := cs.map (clOf X.K i)) (body := [.Expr (.Call (.Name a p1) [] [] p2) p3])
      (tb := fun W D σ H => ∃ Ech : XK, (∀ cls d σ' H', Ech cls d H' → W cls d σ' H') ∧ σ[0]? = some (some (.ref f)) ∧ H c' = some (LamX.CodeO c' q) ∧ tl Ech H fun _ H' => D.nx σ H')
      rfl rfl nd ni kl (fun W pn xe tk _ => by
        refine ⟨fun pins s' σ H' D I h' => ?_⟩
        obtain ⟨Ech, hW, h1, h2, h3⟩ := h'
        have hp := act W pn xe Ech p1 p2 tk hW
        exact (pss_one (ps_expr (pos := p3) hp)).run pins s' σ H' D I ⟨h1, h2, h3⟩) (ok s H)
  refine ⟨_, pss_cons st (pss_one (ps_ret (pos := p6) (pe_non (j := j) (pos := p5)))), ?_⟩
  refine ⟨fun cls d H' => wHC X.K cs cls d H' Q, fun cls d σ' H' hw => wHC_cls hw, h0 f, hc, ?_⟩
  exact h
end
structure ClsFacts (K : PySem.W.Frag) (cs : List HC) : Prop where
  ex : ∀ c ∈ cs, ∀ c' ∈ cs, PySem.W.exmOne K (.ref (clsAt K c.C)) (.ref (clsAt K c'.C)) = some (decide (c.C = c'.C))
theorem hear_mem {C f : Str} {d x : D} : ∀ {cs : List HC}, hear cs C f d = some x → ∃ c ∈ cs, C = c.C ∧ f = c.f
  | [], h => by cases h
  | c :: cs, h => by
    unfold hear at h
    by_cases h1 : C = c.C
    · rw [if_pos h1] at h
      by_cases h2 : f = c.f
      · exact ⟨c, List.mem_cons_self, h1, h2⟩
      · rw [if_neg h2] at h; cases h
    · rw [if_neg h1] at h
      obtain ⟨c', m, z⟩ := hear_mem h
      exact ⟨c', List.mem_cons_of_mem _ m, z⟩
theorem hear_said {K : PySem.W.Frag} {all : List HC} (F : ClsFacts K all) {C f : Str} {d x : D} {dd : Addr} {v : V} {H : Hp} {M : AS} {Q : VK} {c0 : HC} (m0 : c0 ∈ all) (e0 : C = c0.C) (hd : H dd = some (.xd [(f, v)])) (rd : Rep K H M d v)
    (k : ∀ l xs ds, x = .lst ds → H l = none → RepL K H M ds xs → Q (.ref l) (upd H l (.lst xs))) : ∀ {cs : List HC}, (∀ c ∈ cs, c ∈ all) → hear cs C f d = some x → wHC K cs (.ref (clsAt K C)) (some dd) H Q
  | [], _, h => by cases h
  | c :: cs, hm, h => by
    have hex := F.ex c0 m0 c (hm c List.mem_cons_self)
    rw [← e0] at hex
    refine ⟨_, hex, fun hb => ?_, fun hb => ?_⟩
    · have hC : C = c.C := of_decide_eq_true hb
      unfold hear at h
      rw [if_pos hC] at h
      by_cases hf : f = c.f
      · rw [if_pos hf] at h
        refine ⟨by rw [hC], dd, v, ?_⟩
        cases hr : c.rep with
        | false =>
          rw [hr] at h
          cases h
          exact ⟨v, rfl, by rw [← hf]; exact hd, rfl, fun l hl => k l _ _ rfl hl (RepL.cons (by unfold Rep; rfl) (RepL.cons rd RepL.nil))⟩
        | true =>
          rw [hr, if_pos rfl] at h
          unfold reprD at h
          cases ht : toPy d with
          | none => rw [ht] at h; cases h
          | some p =>
            rw [ht] at h
            dsimp only at h
            by_cases hs : showB p = true
            · rw [if_pos hs] at h
              cases h
              exact ⟨.str p.shown, rfl, by rw [← hf]; exact hd, ⟨p, dp_of d v p rd ht, hs, rfl⟩, fun l hl => k l _ _ rfl hl (RepL.cons (by unfold Rep; rfl) (RepL.cons (by unfold Rep; rfl) RepL.nil))⟩
            · rw [if_neg hs] at h; cases h
      · rw [if_neg hf] at h; cases h
    · have hC : ¬ C = c.C := of_decide_eq_false hb
      unfold hear at h
      rw [if_neg hC] at h
      exact hear_said F m0 e0 hd rd k (fun c' h' => hm c' (List.mem_cons_of_mem _ h')) h
theorem stp_ext {H H1 : Hp} (e : LamX.ExtN H H1) (t : LamX.Tabs TabsW.T H1) : Stp NoA H H1 := ⟨fun a o h _ n => e a o h n, fun a ⟨o, h, n⟩ => ⟨o, e a o h n, n⟩, fun P q m _ => t (P, q) m⟩
theorem heard_read {K : PySem.W.Frag} {G : Ctx} {W : WX} {cs : List HC} (F : ClsFacts K cs) {i : IR} {σ : L2.St} {H : Hp} {Q : VK} (q : tI G W K (.heard cs i) σ H Q) :
    LamX.tLam TabsW.T (THeard K cs) (fun E => tI G (fun cls d _ H' => E cls d H') K i) σ H Q := by
  obtain ⟨H0, M0, A, env, E, q⟩ := q
  rw [ev] at q
  refine ⟨fun p hp => E.tb p.1 p.2 hp, fun H1 e1 t1 => ?_⟩
  have s0 : Stp NoA H H1 := stp_ext e1 t1
  have E1 := E.keep s0
  refine ⟨H0, M0, A, env, E1, ?_⟩
  cases h : ev G i env with
  | bad => rw [h] at q; exact q.elim
  | ok o e2 =>
    rw [h] at q
    intro H' s u E' v hv
    exact q H' (s0.no.trans s) u E' .non (by unfold OpdR Rep; rfl)
  | exc C f d e2 =>
    rw [h] at q
    dsimp only at q
    cases hx : hear cs C f d with
    | none => rw [hx] at q; exact q.elim
    | some x =>
      rw [hx] at q
      intro dd v H' s u E' hd rd
      obtain ⟨c0, m0, e0, _⟩ := hear_mem hx
      refine hear_said F m0 e0 hd rd (fun l xs ds ex hl rr => ?_) (fun _ z => z) hx
      subst ex
      exact q _ ((s0.no.trans s).trans (Stp.new hl)) u (E'.new hl) (.ref l) (rep_new hl (E'.fresh hl).1 rr)
section
variable {X : Cx} {G : Ctx} {W : WX}
/-- heard(lambda: body) -/
theorem e_heard {cs : List HC} {i : IR} {x a : Str} {g c P : Addr} {k : Nat} {pg : Arguments} {bg : List Stmt} {sg : Scope} {dV kV doc pm cdv ct oc : Value} {an od : Option Addr} {osl : Array (Option Value)} {Ng : List Str}
    {params : Arguments} {body : Expr} {scope : Scope} {p lpos pos : Pos} (F : ClsFacts X.K cs) (hg : Gl X x) (hm : X.mg x = some (.ref g)) (hk : PySem.W.keepIn X.K (.ref g) = true)
    (lk : X.K.lookup g = some ⟨oc, od, .func (PySem.W.fnOf x x pg bg sg dV kV doc pm an cdv ct), osl⟩) (hcg : PySem.W.codeIn X.K cdv x = true) (hb : L2.Binds X.K (PySem.W.fnOf x x pg bg sg dV kV doc pm an cdv ct) [a] []) (Sg : FnScope Ng [a] sg) (hNg : Ng[0]? = some a) (hva : Vis sg a)
    (hG : LamX.GivesTo X Ng x sg g cdv bg a (X.env.qual ++ "<lambda>") (THeard X.K cs))
    (TB : LamX.TabB X.base X.mg c P) (hcode : X.env.code = .ref c) (hmT : (P, X.env.qual ++ "<lambda>") ∈ TabsW.T) (hu : ∀ p ∈ TabsW.T, p.1 = P → p.2 = X.env.qual ++ "<lambda>") (hr : L2.Room (k + 2) X.A) (L : LamX.LamS X.env.scope scope) (hdef : defaultsOf params X.env = ([], []))
    (hbind : ∀ (q : Str) (cl : List (Str × Addr)) (pm cv ctv : Value), bindArgs (PySem.W.kla_fn "<lambda>" q params body scope cl pm cv ctv) ⟨[], []⟩ = pure [])
    (hbody : ∀ (A : Around) (outer : List PySem.Env) (s : Shared) (H : Hp) (E : XK) (f c' : Addr), L2.Room k (A.deeper (LamX.lamEnv X scope s.heap.objs.size f c')) → PE (LamX.lamCx X A outer s H E scope f c') body (tI G (fun cls d _ H' => E cls d H') X.K i))
    (hdb : (x == ("__debug__" : Str)) = false := by decide) (hd : (a == ("__debug__" : Str)) = false := by decide) (hcd : (a == ("__classdict__" : Str)) = false := by decide) :
    PE X (.Call (.Name x p) [.Lambda params body scope lpos] [] pos) (tI G W X.K (.heard cs i)) :=
  PE.by_ (LamX.pe_lamcall hg hm hk lk hcg hb Sg hNg hva hG TB hcode hmT hu hr L hdef hbind hbody hdb hd hcd) fun σ H Q q => heard_read F q
theorem lam_takes {A : Around} {outer : List PySem.Env} {s : Shared} {H : Hp} {E : XK} {scope : Scope} {f c' : Addr} : Takes (LamX.lamCx X A outer s H E scope f c') (fun cls d _ H' => E cls d H') := takes_of rfl rfl rfl rfl
end
/-- the room of a lambda's body: nothing is known of the guards -/
theorem Room.plain {k : Nat} {A : Around} (h : L2.Room k A) : @Room ⟨False⟩ k A := @Room.mk ⟨False⟩ k A h (fun z => z.elim)
end Mp
set_option maxHeartbeats 4000000
theorem L2.Room.u100 {k : Nat} {A : PySem.Around} (h : L2.Room k A) : A.units + 100 < PySem.cLine := by have := h.un; omega
namespace Mp
open PySem PySem.Spec PyProof.Rows L2
variable [TabsW] [GdW]
section
variable {X : Cx} {G : Ctx} {W : WX}
theorem b_repr {k : Nat} {a : Expr} {i : IR} {p pos : Pos} (hgd : X.A.guards = some []) (hr : L2.Room k X.A) (hm : X.mg "repr" = none) (hg : Gl X "repr") (ha : PE X a (tI G W X.K i)) (h1 : starB a = false) : PE X (.Call (.Name "repr" p) [a] [] pos) (tI G W X.K (.blt .repr [i])) :=
  e_bltF (call_repr hgd) (s_repr hr) hg hm rfl (ar_cons ha ar_nil h1) (by simp [h1]) (by decide) rfl
theorem e_make0P {k j : Nat} {m : Mkr} {x : Str} {p pos : Pos} (F : @MkF _ ⟨False⟩ X.prog X.w X.K X.mg X.base k x m) (hj : G.mks[j]? = some m) (hr : L2.Room (k + 1) X.A) (tk : Takes X W) (hg : Gl X x) : PE X (.Call (.Name x p) [] [] pos) (tI G W X.K (.make j [])) := @e_make0 _ ⟨False⟩ X G W k j m x p pos F hj (Room.plain hr) tk hg
theorem e_callP {k j : Nat} {f : Fn} {x : Str} {e : Expr} {es : List Expr} {is : List IR} {p pos : Pos} (F : @FnF _ ⟨False⟩ X.prog X.w X.K X.mg X.base k x f) (hj : G.fns[j]? = some f) (hr : L2.Room k X.A) (tk : Takes X W) (hg : Gl X x) (ha : PA X (e :: es) (tIa G W X.K f.io 0 is)) (h1 : (e :: es).any starB = false) :
    PE X (.Call (.Name x p) (e :: es) [] pos) (tI G W X.K (.call j is)) := @e_call _ ⟨False⟩ X G W k j f x e es is p pos F hj (Room.plain hr) tk hg ha h1
end
section
variable {P : Program} {w : World} {K : PySem.W.Frag} {mg : Str → Option Value} {base : Heap} {G : Ctx}
/-- a def by its body, where its code object is known -/
theorem fn_bodyC {x qual : Str} {st : Stmt} {f c : Addr} {fd : FuncData} {N ps : List Str} {k : Nat} {io : Option Nat} {b : List ST} (F : Fun K x qual st f fd) (hc : fd.code = .ref c) (S : FnScope N ps (defScope st)) (hn : ps.length ≤ N.length)
    (hb : ∀ (A : Around) (outer : List PySem.Env) (s : Shared) (H : Hp) (E : XK), Room k (A.deeper (envOfC qual (defScope st) s.heap.objs.size f (.ref c))) →
      PSs (cxOf (L2.CX P w) P w K mg base N qual (defScope st) f (.ref c) A outer s H E) (defBody st) (tSs G (fun cls d _ H' => E cls d H') K b)) :
    FnOk P w K mg base (L2.CX P w) (k + 1) f fd ps (spF K ps.length io (semB G N.length io b)) := by
  obtain ⟨oc, od, kV, doc, pm, an, cdv, ct, osl, rfl, lk, hcd⟩ := F.ex
  have e : cdv = .ref c := hc
  subst e
  exact fn_text lk hcd S (fun vs H Q E h => h.1) fun A out s H vs Q E hr h => ⟨_, hb A out s H E hr, body_read hn h⟩
/-- where a def's lambdas are kept -/
structure LamT (base : Heap) (mg : Str → Option Value) (fd : FuncData) (q : Str) (c P : Addr) : Prop where
  code : fd.code = .ref c
  tb : LamX.TabB base mg c P
  mem : (P, q ++ "<lambda>") ∈ TabsW.T
  one : ∀ p ∈ TabsW.T, p.1 = P → p.2 = q ++ "<lambda>"
/-- the def that calls what it got -/
structure HrdF (K : PySem.W.Frag) (mg : Str → Option Value) (x : Str) (st : Stmt) (a : Str) (g : Addr) (cdv : Value) : Prop where
  mg : mg x = some (.ref g)
  kp : PySem.W.keepIn K (.ref g) = true
  ex : ∃ (dV kV doc pm ct oc : Value) (an od : Option Addr) (osl : Array (Option Value)), K.lookup g = some ⟨oc, od, .func (PySem.W.fnOf x x (defArgs st) (defBody st) (defScope st) dV kV doc pm an cdv ct), osl⟩ ∧ L2.Binds K (PySem.W.fnOf x x (defArgs st) (defBody st) (defScope st) dV kV doc pm an cdv ct) [a] []
  cd : PySem.W.codeIn K cdv x = true
end
section
variable {X : Cx} {G : Ctx} {W : WX}
theorem e_hrd {cs : List HC} {i : IR} {x a q : Str} {g c P : Addr} {k : Nat} {st : Stmt} {cdv : Value} {Ng : List Str} {fd : FuncData} {params : Arguments} {body : Expr} {scope : Scope} {p lpos pos : Pos} (EF : ClsFacts X.K cs) (HF : HrdF X.K X.mg x st a g cdv) (Sg : FnScope Ng [a] (defScope st)) (hNg : Ng[0]? = some a) (hva : Vis (defScope st) a)
    (hG : LamX.GivesTo X Ng x (defScope st) g cdv (defBody st) a (X.env.qual ++ "<lambda>") (THeard X.K cs)) (T : LamT X.base X.mg fd q c P) (hq : X.env.qual = q) (hcode : X.env.code = .ref c) (hr : L2.Room (k + 2) X.A) (hg : Gl X x) (L : LamX.LamS X.env.scope scope) (hdef : defaultsOf params X.env = ([], []))
    (hbind : ∀ (q : Str) (cl : List (Str × Addr)) (pm cv ctv : Value), bindArgs (PySem.W.kla_fn "<lambda>" q params body scope cl pm cv ctv) ⟨[], []⟩ = pure [])
    (hbody : ∀ (A : Around) (outer : List PySem.Env) (s : Shared) (H : Hp) (E : XK) (f c' : Addr), L2.Room k (A.deeper (LamX.lamEnv X scope s.heap.objs.size f c')) → PE (LamX.lamCx X A outer s H E scope f c') body (tI G (fun cls d _ H' => E cls d H') X.K i))
    (hdb : (x == ("__debug__" : Str)) = false) (hd : (a == ("__debug__" : Str)) = false) (hcd : (a == ("__classdict__" : Str)) = false) : PE X (.Call (.Name x p) [.Lambda params body scope lpos] [] pos) (tI G W X.K (.heard cs i)) := by
  obtain ⟨dV, kV, doc, pm, ct, oc, an, od, osl, lk, hb⟩ := HF.ex
  subst hq
  exact e_heard EF hg HF.mg HF.kp lk HF.cd hb Sg hNg hva hG T.tb hcode T.mem T.one hr L hdef hbind hbody hdb hd hcd
end
end Mp
set_option maxHeartbeats 2000000
namespace Mp
open PySem L2
mutual
theorem eqD_self : ∀ (n : Nat) (d : D), dataD n d = true → eqD d d = true
  | _, .non, _ => by rw [eqD]
  | _, .bl b, _ => by rw [eqD]; simp
  | _, .int i, _ => by rw [eqD]; simp
  | _, .str s, _ => by rw [eqD]; simp
  | 0, .lst ds, h => by simp [dataD] at h
  | 0, .tup ds, h => by simp [dataD] at h
  | n + 1, .lst ds, h => by rw [dataD] at h; rw [eqD]; exact eqDs_self n ds h
  | n + 1, .tup ds, h => by rw [dataD] at h; rw [eqD]; exact eqDs_self n ds h
  | 0, .obj _ _ _, h => by simp [dataD] at h
  | 0, .raw _, h => by simp [dataD] at h
  | n + 1, .obj _ _ _, h => by simp [dataD] at h
  | n + 1, .raw _, h => by simp [dataD] at h
theorem eqDs_self : ∀ (n : Nat) (ds : List D), dataDs n ds = true → eqDs ds ds = true
  | _, [], _ => by rw [eqDs]
  | n, d :: ds, h => by
    rw [dataDs, Bool.and_eq_true] at h
    rw [eqDs, eqD_self n d h.1, eqDs_self n ds h.2]; rfl
end
theorem cmp_self {d : D} (h : dataD 20 d = true) : cmpD .eq d d = some true := by
  show (if dataD 20 d && dataD 20 d then some (eqD d d) else none) = _
  rw [h, eqD_self 20 d h]; rfl
theorem cmp_nself {d : D} (h : dataD 20 d = true) : cmpD .ne d d = some false := by
  show (if dataD 20 d && dataD 20 d then some (!eqD d d) else none) = _
  rw [h, eqD_self 20 d h]; rfl
theorem dataDs_all {n : Nat} : ∀ {ds : List D}, (∀ d, d ∈ ds → dataD n d = true) → dataDs n ds = true
  | [], _ => by rw [dataDs]
  | d :: ds, h => by
    rw [dataDs, h d List.mem_cons_self, dataDs_all fun e he => h e (List.mem_cons_of_mem _ he)]; rfl
theorem dataD_lst {n : Nat} {ds : List D} (h : ∀ d, d ∈ ds → dataD n d = true) : dataD (n + 1) (.lst ds) = true := by rw [dataD]; exact dataDs_all h
theorem dataD_tup {n : Nat} {ds : List D} (h : ∀ d, d ∈ ds → dataD n d = true) : dataD (n + 1) (.tup ds) = true := by rw [dataD]; exact dataDs_all h
theorem dataD_int {n : Nat} {i : Int} : dataD n (.int i) = true := by cases n <;> rw [dataD]
theorem dataD_non {n : Nat} : dataD n .non = true := by cases n <;> rw [dataD]
theorem cmp_int_ne {i j : Int} (h : ¬ i = j) : cmpD .eq (.int i) (.int j) = some false := by
  show (if dataD 20 (.int i) && dataD 20 (.int j) then some (eqD (.int i) (.int j)) else none) = _
  rw [dataD_int, dataD_int, eqD, beq_eq_false_iff_ne.mpr h]; rfl
section
variable [TabsW] [GdW]
theorem iota_map' (lo : Nat) : ∀ n, iotaD lo n = (List.range' lo n).map fun k : Nat => D.int (k : Int)
  | 0 => rfl
  | n + 1 => by
    rw [iotaD, List.range'_succ, List.map_cons, ← iota_map' (lo + 1) n]
    rfl
theorem lcLoop_map {α : Type} {env0 : Env} {i : Nat} {T : Option (Env → R Bool)} {E : Env → R D} {f g : α → D} {p : α → Bool} (hi : i < env0.length) : ∀ (l : List α) (env : Env), env.set i none = env0.set i none →
    (∀ a, a ∈ l → tstR T (env0.set i (some (.dat (f a)))) = .ok (p a) (env0.set i (some (.dat (f a))))) →
    (∀ a, a ∈ l → p a = true → E (env0.set i (some (.dat (f a)))) = .ok (g a) (env0.set i (some (.dat (f a))))) →
    ∃ env', lcLoop [i] (.name i) T E (l.map f) env = .ok ((l.filter p).map g) env' ∧ env'.set i none = env0.set i none
  | [], env, h, _, _ => ⟨env, rfl, h⟩
  | a :: l, env, h, hT, hE => by
    have hb : bindT (.name i) (f a) (wipeE env [i]) = some (env0.set i (some (.dat (f a)))) := by
      show (if freeB (env.set i none) i = true then some ((env.set i none).set i (some (Cell.dat (f a)))) else none) = _
      rw [h, if_pos (free_wipe hi), List.set_set]
    have t := hT a List.mem_cons_self
    obtain ⟨env', e1, e2⟩ := lcLoop_map hi l (env0.set i (some (.dat (f a)))) (by rw [List.set_set]) (fun d hd => hT d (List.mem_cons_of_mem _ hd)) (fun d hd => hE d (List.mem_cons_of_mem _ hd))
    rw [List.map_cons, lcLoop_cons hb, t]
    refine ⟨env', ?_, e2⟩
    cases hp : p a with
    | false =>
      rw [List.filter_cons_of_neg (by rw [hp]; decide)]
      exact e1
    | true =>
      rw [List.filter_cons_of_pos hp, List.map_cons]
      show ((E (env0.set i (some (.dat (f a))))).bind fun x env3 => (lcLoop [i] (.name i) T E (l.map f) env3).bind fun xs env4 => R.ok (x :: xs) env4) = _
      rw [hE a List.mem_cons_self hp]
      show ((lcLoop [i] (.name i) T E (l.map f) (env0.set i (some (.dat (f a))))).bind fun xs env4 => R.ok (g a :: xs) env4) = _
      rw [e1]; rfl
variable {G : Ctx}
theorem lc_go {tg : Tgt} {it : IT} {t : Option IR} {e : IR} {own : List Nat} {env env0 env' : Env} {ds xs : List D} (hit : evi G it env = .ok ds env0) (hl : ds.length ≤ BIG) (hh : own.all (hideB env0) = true) (ho : (tgOwn tg).all (fun j => own.contains j) = true)
    (h : lcLoop own tg (tsF G t) (fun x => (ev G e x).take) ds env0 = .ok xs env') : ev G (.lc tg it t e own) env = .ok (.val (.lst xs)) (backE env0 env' own) := by
  rw [ev_lc, hit]
  show (if ds.length ≤ BIG ∧ own.all (hideB env0) = true ∧ (tgOwn tg).all (fun j => own.contains j) = true then _ else _) = _
  rw [if_pos ⟨hl, hh, ho⟩, h]
  rfl
/-- [e for x in it if t], it being a list made of l by f -/
theorem ev_lc_filt {α : Type} {i : Nat} {it : IT} {t e : IR} {env env0 : Env} {l : List α} {f g : α → D} (p : α → Bool) (hit : evi G it env = .ok (l.map f) env0) (hl : l.length ≤ BIG) (hh : hideB env0 i = true) (hi : i < env0.length)
    (hT : ∀ a, a ∈ l → truR (ev G t (env0.set i (some (.dat (f a))))) = .ok (p a) (env0.set i (some (.dat (f a)))))
    (hE : ∀ a, a ∈ l → p a = true → (ev G e (env0.set i (some (.dat (f a))))).take = .ok (g a) (env0.set i (some (.dat (f a))))) :
    ev G (.lc (.name i) it (some t) e [i]) env = .ok (.val (.lst ((l.filter p).map g))) env0 := by
  obtain ⟨env', e1, e2⟩ := lcLoop_map (T := tsF G (some t)) (E := fun x => (ev G e x).take) (f := f) (g := g) (p := p) hi l env0 rfl hT hE
  rw [lc_go hit (by simpa using hl) (by simp [hh]) (by simp [tgOwn]) e1, back_same e2]
theorem ev_lc_map {α : Type} {i : Nat} {it : IT} {e : IR} {env env0 : Env} {l : List α} {f g : α → D} (hit : evi G it env = .ok (l.map f) env0) (hl : l.length ≤ BIG) (hh : hideB env0 i = true) (hi : i < env0.length)
    (hE : ∀ a, a ∈ l → (ev G e (env0.set i (some (.dat (f a))))).take = .ok (g a) (env0.set i (some (.dat (f a))))) :
    ev G (.lc (.name i) it none e [i]) env = .ok (.val (.lst (l.map g))) env0 := by
  obtain ⟨env', e1, e2⟩ := lcLoop_map (T := tsF G none) (E := fun x => (ev G e x).take) (f := f) (g := g) (p := fun _ => true) hi l env0 rfl (fun _ _ => rfl) fun a ha _ => hE a ha
  rw [lc_go hit (by simpa using hl) (by simp [hh]) (by simp [tgOwn]) e1, back_same e2, List.filter_eq_self.mpr (fun _ _ => rfl)]
/-- a comprehension each turn of which changes the list in slot s -/
theorem ev_lc_draw {α β : Type} {i s : Nat} {it : IT} {e : IR} {env env0 : Env} {l : List α} {f : α → D} {h : β → D} {Q : β → Prop} {S : List D → Prop} {c : List D → Cell} {u0 : List D} (hit : evi G it env = .ok (l.map f) (env0.set s (some (c u0)))) (hS : S u0) (hl : l.length ≤ BIG) (hne : s ≠ i) (hn : env0[i]? = some none)
    (step : ∀ a, a ∈ l → ∀ u, S u → ∃ (m : β) (u' : List D), S u' ∧ Q m ∧ (ev G e ((env0.set s (some (c u))).set i (some (.dat (f a))))).take = .ok (h m) ((env0.set s (some (c u'))).set i (some (.dat (f a))))) :
    ∃ (ms : List β) (u' : List D), S u' ∧ ms.length = l.length ∧ (∀ m, m ∈ ms → Q m) ∧ ev G (.lc (.name i) it none e [i]) env = .ok (.val (.lst (ms.map h))) (env0.set s (some (c u'))) := by
  have hi : i < env0.length := (List.getElem?_eq_some_iff.mp hn).1
  have loop : ∀ (l : List α) (env : Env) (u : List D), S u → env.set i none = (env0.set s (some (c u))).set i none →
      (∀ a, a ∈ l → ∀ u, S u → ∃ (m : β) (u' : List D), S u' ∧ Q m ∧ (ev G e ((env0.set s (some (c u))).set i (some (.dat (f a))))).take = .ok (h m) ((env0.set s (some (c u'))).set i (some (.dat (f a))))) →
      ∃ (ms : List β) (u' : List D) (env' : Env), S u' ∧ ms.length = l.length ∧ (∀ m, m ∈ ms → Q m) ∧ lcLoop [i] (.name i) none (fun x => (ev G e x).take) (l.map f) env = .ok (ms.map h) env' ∧ env'.set i none = (env0.set s (some (c u'))).set i none := by
    intro l
    induction l with
    | nil => exact fun env u hu he _ => ⟨[], u, env, hu, rfl, (fun _ z => nomatch z), rfl, he⟩
    | cons a l ih =>
      intro env u hu he hs
      obtain ⟨m, u1, hu1, hq, hx⟩ := hs a List.mem_cons_self u hu
      have hb : bindT (.name i) (f a) (wipeE env [i]) = some ((env0.set s (some (c u))).set i (some (.dat (f a)))) := by
        show (if freeB (env.set i none) i = true then some ((env.set i none).set i (some (Cell.dat (f a)))) else none) = _
        rw [he, if_pos (free_wipe (by rw [List.length_set]; exact hi)), List.set_set]
      obtain ⟨ms, u2, env', g1, g2, g3, g4, g5⟩ := ih ((env0.set s (some (c u1))).set i (some (.dat (f a)))) u1 hu1 (by rw [List.set_set]) fun a ha => hs a (List.mem_cons_of_mem _ ha)
      refine ⟨m :: ms, u2, env', g1, by simp [g2], fun x hx => ?_, ?_, g5⟩
      · rcases List.mem_cons.mp hx with rfl | hx
        · exact hq
        · exact g3 x hx
      · rw [List.map_cons, lcLoop_cons hb]
        show ((ev G e ((env0.set s (some (c u))).set i (some (.dat (f a))))).take.bind fun x env3 => (lcLoop [i] (.name i) none (fun x => (ev G e x).take) (l.map f) env3).bind fun xs env4 => R.ok (x :: xs) env4) = _
        rw [hx]
        show ((lcLoop [i] (.name i) none (fun x => (ev G e x).take) (l.map f) ((env0.set s (some (c u1))).set i (some (.dat (f a))))).bind fun xs env4 => R.ok (h m :: xs) env4) = _
        rw [g4]; rfl
  obtain ⟨ms, u', env', g1, g2, g3, g4, g5⟩ := loop l (env0.set s (some (c u0))) u0 hS rfl step
  refine ⟨ms, u', g1, g2, g3, ?_⟩
  have hh : hideB (env0.set s (some (c u0))) i = true := by
    unfold hideB
    rw [List.getElem?_set_ne hne, hn]
  rw [lc_go (t := none) hit (by simpa using hl) (by simp [hh]) (by simp [tgOwn]) g4]
  congr 1
  have e1 : backE (env0.set s (some (c u0))) env' [i] = env'.set i none := by
    unfold backE
    unfold backE
    rw [List.getElem?_set_ne hne, hn]; rfl
  rw [e1, g5]
  refine List.ext_getElem? fun j => ?_
  by_cases hj : i = j
  · subst hj
    rw [List.getElem?_set_self (by rw [List.length_set]; exact hi), List.getElem?_set_ne hne, hn]
  · rw [List.getElem?_set_ne hj]
end
section
variable [TabsW] [GdW]
/-- a class called with fewer arguments than its __init__ has -/
theorem mkF_dfl {P : Program} {w : World} {K : PySem.W.Frag} {mg : Str → Option Value} {base : Heap} {k : Nat} {x : Str} {a : Addr} {fd : FuncData} {ps : List Str} {C : Str} {n m : Nat} {ns : List Str} {sem sem0 : List D → FR} {dvs : List V} {dds : List Value} (dfl : List D) (hd : (x == ("__debug__" : Str)) = false) (hm : mg x = some (.ref (clsAt K C))) (M : Mk K (clsAt K C) a)
    (ok : FnOk P w K mg base (L2.CX P w) k a fd ps (spMk K C m ns sem)) (hb : Binds K fd ps dds) (hv : Vals dvs dds) (hr : ∀ H M, RepL K H M dfl dvs) (hl : n + dvs.length = m) (he : ∀ ds, sem0 ds = sem (ds ++ dfl)) : MkF P w K mg base k x ⟨C, n, ns, sem0⟩ :=
  ⟨hd, a, fd, ps, _, dds, dvs, hm, M, ok, hb, hv, fun v vs H Q E h => by
    obtain ⟨N, ds, b, dx, rest, h1, h2, h3, h4, h5, h6, h7⟩ := h
    cases h2
    dsimp only at h3 h7
    refine ⟨N, ds ++ dfl, b, dx, vs ++ dvs, h1, rfl, by rw [List.length_append, h3]; exact hl, h4, h5, h6.append (hr _ _), ?_⟩
    rw [← he ds]
    exact h7⟩
end
end Mp
set_option maxHeartbeats 4000000
namespace Mp
/-- the told moments in order -/
def srt (ms : List (Option Nat)) : List Nat := (ms.filterMap id).mergeSort
/-- the n-th of moments, from 1 -/
def nthM (ms : List (Option Nat)) (n : Nat) : Option Nat := (srt ms)[n - 1]?
def greM (ms : List (Option Nat)) : Option Nat := if ms = [] then some 0 else nthM ms ms.length
def deskM (es : List (Option Nat)) (k : Nat) : Option Nat := if es.length < k then some 0 else nthM es (es.length - k + 1)
def gateL (n t : Nat) : List (Nat × Nat) → Option Nat
  | [] => none
  | s :: ss => if max s.1 t + n ≤ s.2 then some (max s.1 t) else gateL n t ss
def gateM (ss : Option (List (Nat × Nat))) (n : Nat) : Option Nat → Option Nat
  | none => none
  | some t => match ss with
    | none => some t
    | some ss => gateL n t ss
/-- at most a minute -/
def atM (m : Option Nat) (y : Nat) : Prop := ∃ a, m = some a ∧ a ≤ y
instance (m : Option Nat) (y : Nat) : Decidable (atM m y) := match m with
  | none => .isFalse (by rintro ⟨a, h, _⟩; cases h)
  | some a => if h : a ≤ y then .isTrue ⟨a, rfl, h⟩ else .isFalse (by rintro ⟨b, h1, h2⟩; cases h1; exact h h2)
def leM (a b : Option Nat) : Prop := ∀ y, atM b y → atM a y
theorem leM.rfl' (a : Option Nat) : leM a a := fun _ h => h
theorem leM.tr {a b c : Option Nat} (h : leM a b) (k : leM b c) : leM a c := fun y z => h y (k y z)
def cnt (ms : List (Option Nat)) (y : Nat) : Nat := ms.countP fun m => decide (atM m y)
theorem cnt_told (y : Nat) : ∀ ms : List (Option Nat), cnt ms y = (ms.filterMap id).countP fun a => decide (a ≤ y)
  | [] => rfl
  | none :: ms => by
    have e : (none :: ms).filterMap id = ms.filterMap id := rfl
    rw [e, ← cnt_told y ms]
    unfold cnt
    rw [List.countP_cons_of_neg]
    exact fun h => by obtain ⟨a, h, _⟩ := of_decide_eq_true h; cases h
  | some a :: ms => by
    have e : (some a :: ms).filterMap id = a :: ms.filterMap id := rfl
    have c := cnt_told y ms
    unfold cnt at c ⊢
    rw [e, List.countP_cons, List.countP_cons, c]
    congr 1
    by_cases h : a ≤ y
    · rw [if_pos (decide_eq_true h), if_pos (decide_eq_true ⟨a, rfl, h⟩)]
    · rw [if_neg (fun z => h (of_decide_eq_true z)), if_neg (fun z => by obtain ⟨b, e1, e2⟩ := of_decide_eq_true z; cases e1; exact h e2)]
theorem sorted_at (y : Nat) : ∀ (l : List Nat), l.Pairwise (· ≤ ·) → ∀ k, (atM l[k]? y ↔ k < l.countP fun a => decide (a ≤ y))
  | [], _, k => by
    constructor
    · rintro ⟨a, h, _⟩; cases h
    · intro h; cases h
  | a :: l, hp, k => by
    have hp' := List.pairwise_cons.mp hp
    by_cases h : a ≤ y
    · have q : (a :: l).countP (fun a => decide (a ≤ y)) = l.countP (fun a => decide (a ≤ y)) + 1 := List.countP_cons_of_pos (by simpa using h)
      rw [q]
      cases k with
      | zero => exact ⟨fun _ => Nat.succ_pos _, fun _ => ⟨a, rfl, h⟩⟩
      | succ k =>
        rw [List.getElem?_cons_succ, sorted_at y l hp'.2 k]
        omega
    · have q : (a :: l).countP (fun a => decide (a ≤ y)) = l.countP (fun a => decide (a ≤ y)) := List.countP_cons_of_neg (by simpa using h)
      rw [q]
      have z : l.countP (fun a => decide (a ≤ y)) = 0 := by
        rw [List.countP_eq_zero]
        intro b hb
        have := hp'.1 b hb
        simp; omega
      rw [z]
      constructor
      · rintro ⟨b, e, k1⟩
        cases k with
        | zero => cases e; exact absurd k1 h
        | succ k =>
          rw [List.getElem?_cons_succ] at e
          have := hp'.1 b (List.mem_of_getElem? e)
          omega
      · intro h; cases h
theorem srt_sorted (ms : List (Option Nat)) : (srt ms).Pairwise (· ≤ ·) := by
  have := List.pairwise_mergeSort (le := fun a b : Nat => decide (a ≤ b)) (by intro a b c; simp; omega) (by intro a b; simp; omega) (ms.filterMap id)
  exact this.imp fun h => by simpa using h
theorem nth_at (ms : List (Option Nat)) (n y : Nat) (hn : 1 ≤ n) : atM (nthM ms n) y ↔ n ≤ cnt ms y := by
  unfold nthM
  rw [sorted_at y _ (srt_sorted ms), cnt_told]
  have : (srt ms).countP (fun a => decide (a ≤ y)) = (ms.filterMap id).countP fun a => decide (a ≤ y) := (List.mergeSort_perm _ _).countP_eq _
  rw [this]
  omega
inductive LeL : List (Option Nat) → List (Option Nat) → Prop where
  | nil : LeL [] []
  | cons {a b as bs} : leM a b → LeL as bs → LeL (a :: as) (b :: bs)
theorem LeL.len {as bs} (h : LeL as bs) : as.length = bs.length := by
  induction h with
  | nil => rfl
  | cons _ _ ih => simp [ih]
abbrev Row := List (Option Nat × Option Nat)
inductive RowLe : Row → Row → Prop where
  | nil : RowLe [] []
  | cons {p q r s} : leM p.1 q.1 → leM p.2 q.2 → RowLe r s → RowLe (p :: r) (q :: s)
theorem RowLe.len {r s} (h : RowLe r s) : r.length = s.length := by
  induction h with
  | nil => rfl
  | cons _ _ _ ih => simp [ih]
theorem RowLe.app {r s p q} (h : RowLe r s) (h1 : leM p.1 q.1) (h2 : leM p.2 q.2) : RowLe (r ++ [p]) (s ++ [q]) := by
  induction h with
  | nil => exact .cons h1 h2 .nil
  | cons a b _ ih => exact .cons a b ih
theorem RowLe.last {r s} (h : RowLe r s) : (r = [] ∧ s = []) ∨ ∃ p q, r.getLast? = some p ∧ s.getLast? = some q ∧ leM p.1 q.1 ∧ leM p.2 q.2 := by
  induction h with
  | nil => exact .inl ⟨rfl, rfl⟩
  | @cons p q r s a b h ih =>
    refine .inr ?_
    rcases ih with ⟨rfl, rfl⟩ | ⟨p', q', e1, e2, k⟩
    · exact ⟨p, q, rfl, rfl, a, b⟩
    · refine ⟨p', q', ?_, ?_, k⟩
      · rw [List.getLast?_cons, e1]; rfl
      · rw [List.getLast?_cons, e2]; rfl
def aheadM (row : Row) : Option Nat := match row.getLast? with
  | none => some 0
  | some p => p.1
def cstep (o : Option (List (Nat × Nat))) (k : Nat) (row : Row) (an : Option Nat × Nat) : Row :=
  let b := gateM o an.2 (greM [an.1, aheadM row, deskM (row.map (·.2)) k])
  row ++ [(b, b.map (· + an.2))]
def counterM (o : Option (List (Nat × Nat))) (k : Nat) (as : List (Option Nat)) (ns : List Nat) : Row := (as.zip ns).foldl (cstep o k) []
inductive LeP : List (Option Nat × Nat) → List (Option Nat × Nat) → Prop where
  | nil : LeP [] []
  | cons {p q r s} : leM p.1 q.1 → p.2 ≤ q.2 → LeP r s → LeP (p :: r) (q :: s)
theorem LeP.zip : ∀ {as bs} (_ : LeL as bs) {ns ms : List Nat} (_ : ns.length = ms.length) (_ : ∀ (i : Nat) (a b : Nat), ns[i]? = some a → ms[i]? = some b → a ≤ b), LeP (as.zip ns) (bs.zip ms)
  | _, _, .nil, _, _, _, _ => .nil
  | _, _, .cons _ _, [], [], _, _ => .nil
  | _, _, .cons h1 h2, n :: ns, m :: ms, hl, h => .cons h1 (h 0 n m rfl rfl) (LeP.zip h2 (by simpa using hl) fun i a b x y => h (i + 1) a b x y)
  | _, _, .cons _ _, [], _ :: _, hl, _ => by cases hl
  | _, _, .cons _ _, _ :: _, [], hl, _ => by cases hl
theorem fold_len (o k) : ∀ (xs : List (Option Nat × Nat)) (r : Row), (xs.foldl (cstep o k) r).length = r.length + xs.length
  | [], r => rfl
  | x :: xs, r => by
    rw [List.foldl_cons, fold_len o k xs]
    unfold cstep
    simp; omega
theorem fold_pre (o k) : ∀ (xs : List (Option Nat × Nat)) (r : Row), ∃ t, xs.foldl (cstep o k) r = r ++ t
  | [], r => ⟨[], by simp⟩
  | x :: xs, r => by
    obtain ⟨t, h⟩ := fold_pre o k xs (cstep o k r x)
    rw [List.foldl_cons, h]
    unfold cstep
    exact ⟨_, by rw [List.append_assoc]⟩
theorem counter_len (o k as ns) (h : as.length = ns.length) : (counterM o k as ns).length = as.length := by
  unfold counterM
  rw [fold_len]; simp; omega
theorem LeL.get {as bs} (h : LeL as bs) : ∀ p : Nat, leM ((as[p]?).getD none) ((bs[p]?).getD none) := by
  induction h with
  | nil => exact fun p => leM.rfl' _
  | cons h1 h2 ih => intro p; cases p with
    | zero => exact h1
    | succ p => exact ih p
end Mp
set_option maxHeartbeats 4000000
namespace Mp
open PySem L2 PyProof.Rows
variable [TabsW] [GdW]
def top (i : Nat) : Stmt := PySem.Challenge.pw_risingday_k13_counters_desk_by_desk.main.body.getD i (.Pass ⟨0, 0, 0, 0⟩)
def inTop (i j : Nat) : Stmt := match top i with
  | .ClassDef _ _ _ body _ _ _ _ _ _ _ => body.getD j (.Pass ⟨0, 0, 0, 0⟩)
  | _ => .Pass ⟨0, 0, 0, 0⟩
section
variable {P : Program} {w : World} {K : PySem.W.Frag} {mg : Str → Option Value} {base : Heap}
def spansD : List D → Option (List (Nat × Nat))
  | [] => some []
  | .tup [.int a, .int b] :: ds => if 0 ≤ a ∧ a ≤ b ∧ b ≤ 9999 then (spansD ds).map ((a.toNat, b.toNat) :: ·) else none
  | _ => none
def apartS : List (Nat × Nat) → Bool
  | s :: r :: ss => decide (s.2 < r.1) && apartS (r :: ss)
  | _ => true
def goodS (ss : List (Nat × Nat)) : Bool := decide (ss.length ≤ 4) && apartS ss
def k_Hours : Mkr := ⟨"Hours", 1, ["_spans"], fun ds => match ds with
  | [.non] => .ok .non [.non]
  | [.lst ds] => (match spansD ds with
    | some ss => if goodS ss then .ok .non [.tup ds] else .bad
    | none => .bad)
  | _ => .bad⟩
def b_is_whole : List ST := [.ret (.and_ (.isin (.v 0) [.int]) (.not_ (.isin (.v 0) [.bool])))]
def g_is_whole : Ctx := ⟨[], [], [], ["Hours"], []⟩
def f_is_whole : Fn := ⟨1, none, semB g_is_whole 1 none b_is_whole⟩
theorem sc_is_whole : FnScope ["value"] ["value"] (defScope (top 9)) := ⟨rfl, rfl, rfl, by decide +kernel, rfl, by decide +kernel, by decide +kernel⟩
theorem ok_is_whole {f : Addr} {fd : FuncData} (F : Fun K "is_whole" "is_whole" (top 9) f fd) (z_isinstance : mg "isinstance" = none) (z_int : mg "int" = none) (z_bool : mg "bool" = none) (hC : ∀ C, C ∈ (["Hours"] : List Str) → IsC K C) (K_int : IsK K ["Hours"] .int (.type "int")) (K_bool : IsK K ["Hours"] .bool (.type "bool")) :
    FnOk P w K mg base (L2.CX P w) 1 f fd ["value"] (spF K 1 none (semB g_is_whole 1 none b_is_whole)) :=
  have S := sc_is_whole
  fn_body F S (by decide) fun cdv A outer s H E hr =>
    (ss_cons (st_ret (e_and (e_isin1 hC K_int (.ty "int") (e_v (i := 0) rfl (by first | exact .inl rfl | exact .inr (.inl rfl) | exact .inr (.inr rfl)) (by decide) (by decide)) (pe_bltn rfl z_int (by decide +kernel) rfl) rfl z_isinstance rfl rfl) (pe_one (e_not (e_isin1 hC K_bool (.ty "bool") (e_v (i := 0) rfl (by first | exact .inl rfl | exact .inr (.inl rfl) | exact .inr (.inr rfl)) (by decide) (by decide)) (pe_bltn rfl z_bool (by decide +kernel) rfl) rfl z_isinstance rfl rfl))))) ss_nil)
def b_is_between : List ST := [.ret (.and_ (.call 0 [.v 0]) (.chn .le .le (.v 1) (.v 0) (.v 2)))]
def g_is_between : Ctx := ⟨[f_is_whole], [], [], ["Hours"], []⟩
def f_is_between : Fn := ⟨3, none, semB g_is_between 3 none b_is_between⟩
theorem cl_is_between_0 {a0 : IR} {env : Env} : ev g_is_between (.call 0 [a0]) env = (evs g_is_between [a0] env).bind fun ds e1 => runF e1 (f_is_whole.sem ds) := ev_call rfl rfl rfl
theorem sc_is_between : FnScope ["value", "low", "high"] ["value", "low", "high"] (defScope (top 10)) := ⟨rfl, rfl, rfl, by decide +kernel, rfl, by decide +kernel, by decide +kernel⟩
theorem ok_is_between {f : Addr} {fd : FuncData} (F : Fun K "is_between" "is_between" (top 10) f fd) (F_is_whole : FnF P w K mg base 1 "is_whole" f_is_whole) :
    FnOk P w K mg base (L2.CX P w) 2 f fd ["value", "low", "high"] (spF K 3 none (semB g_is_between 3 none b_is_between)) :=
  have S := sc_is_between
  fn_body F S (by decide) fun cdv A outer s H E hr =>
    (ss_cons (st_ret (e_and (e_call F_is_whole rfl (hr.mono (by decide)) (takes_of rfl rfl rfl rfl) rfl (aa_cons (e_v (i := 0) rfl (by first | exact .inl rfl | exact .inr (.inl rfl) | exact .inr (.inr rfl)) (by decide) (by decide)) aa_nil rfl) rfl) (pe_one (e_chn op_le op_le s_le s_le (e_v (i := 1) rfl (by first | exact .inl rfl | exact .inr (.inl rfl) | exact .inr (.inr rfl)) (by decide) (by decide)) (e_v (i := 0) rfl (by first | exact .inl rfl | exact .inr (.inl rfl) | exact .inr (.inr rfl)) (by decide) (by decide)) (e_v (i := 2) rfl (by first | exact .inl rfl | exact .inr (.inl rfl) | exact .inr (.inr rfl)) (by decide) (by decide)) rfl)))) ss_nil)
def b_is_count : List ST := [.ret (.and_ (.call 0 [.v 0]) (.cmp .ge (.v 0) (.c (.int 0))))]
def g_is_count : Ctx := ⟨[f_is_whole], [], [], ["Hours"], []⟩
def f_is_count : Fn := ⟨1, none, semB g_is_count 1 none b_is_count⟩
theorem sc_is_count : FnScope ["value"] ["value"] (defScope (top 11)) := ⟨rfl, rfl, rfl, by decide +kernel, rfl, by decide +kernel, by decide +kernel⟩
theorem ok_is_count {f : Addr} {fd : FuncData} (F : Fun K "is_count" "is_count" (top 11) f fd) (F_is_whole : FnF P w K mg base 1 "is_whole" f_is_whole) :
    FnOk P w K mg base (L2.CX P w) 2 f fd ["value"] (spF K 1 none (semB g_is_count 1 none b_is_count)) :=
  have S := sc_is_count
  fn_body F S (by decide) fun cdv A outer s H E hr =>
    (ss_cons (st_ret (e_and (e_call F_is_whole rfl (hr.mono (by decide)) (takes_of rfl rfl rfl rfl) rfl (aa_cons (e_v (i := 0) rfl (by first | exact .inl rfl | exact .inr (.inl rfl) | exact .inr (.inr rfl)) (by decide) (by decide)) aa_nil rfl) rfl) (pe_one (x_ge (e_v (i := 0) rfl (by first | exact .inl rfl | exact .inr (.inl rfl) | exact .inr (.inr rfl)) (by decide) (by decide)) xi)))) ss_nil)
def b_is_told_minute : List ST := [.ret (.call 0 [.v 0, .c (.int 0), .c (.int 9999)])]
def g_is_told_minute : Ctx := ⟨[f_is_between], [], [], ["Hours"], []⟩
def f_is_told_minute : Fn := ⟨1, none, semB g_is_told_minute 1 none b_is_told_minute⟩
theorem cl_is_told_minute_0 {a0 a1 a2 : IR} {env : Env} : ev g_is_told_minute (.call 0 [a0, a1, a2]) env = (evs g_is_told_minute [a0, a1, a2] env).bind fun ds e1 => runF e1 (f_is_between.sem ds) := ev_call rfl rfl rfl
theorem sc_is_told_minute : FnScope ["value"] ["value"] (defScope (top 12)) := ⟨rfl, rfl, rfl, by decide +kernel, rfl, by decide +kernel, by decide +kernel⟩
theorem ok_is_told_minute {f : Addr} {fd : FuncData} (F : Fun K "is_told_minute" "is_told_minute" (top 12) f fd) (F_is_between : FnF P w K mg base 2 "is_between" f_is_between) {t_LAST_MINUTE : Nat} (c_LAST_MINUTE : mg "LAST_MINUTE" = some (.int 9999 t_LAST_MINUTE)) :
    FnOk P w K mg base (L2.CX P w) 3 f fd ["value"] (spF K 1 none (semB g_is_told_minute 1 none b_is_told_minute)) :=
  have S := sc_is_told_minute
  fn_body F S (by decide) fun cdv A outer s H E hr =>
    (ss_cons (st_ret (e_call F_is_between rfl (hr.mono (by decide)) (takes_of rfl rfl rfl rfl) rfl (aa_cons (e_v (i := 0) rfl (by first | exact .inl rfl | exact .inr (.inl rfl) | exact .inr (.inr rfl)) (by decide) (by decide)) (aa_cons xi (aa_cons (xg c_LAST_MINUTE rfl (by decide)) aa_nil rfl) rfl) rfl) rfl)) ss_nil)
def b_is_count_or_never : List ST := [.ret (.or_ (.cmp .is_ (.v 0) (.c .non)) (.call 0 [.v 0]))]
def g_is_count_or_never : Ctx := ⟨[f_is_count], [], [], ["Hours"], []⟩
def f_is_count_or_never : Fn := ⟨1, none, semB g_is_count_or_never 1 none b_is_count_or_never⟩
theorem sc_is_count_or_never : FnScope ["value"] ["value"] (defScope (top 13)) := ⟨rfl, rfl, rfl, by decide +kernel, rfl, by decide +kernel, by decide +kernel⟩
theorem ok_is_count_or_never {f : Addr} {fd : FuncData} (F : Fun K "is_count_or_never" "is_count_or_never" (top 13) f fd) (F_is_count : FnF P w K mg base 2 "is_count" f_is_count) :
    FnOk P w K mg base (L2.CX P w) 3 f fd ["value"] (spF K 1 none (semB g_is_count_or_never 1 none b_is_count_or_never)) :=
  have S := sc_is_count_or_never
  fn_body F S (by decide) fun cdv A outer s H E hr =>
    (ss_cons (st_ret (e_or (x_is (e_v (i := 0) rfl (by first | exact .inl rfl | exact .inr (.inl rfl) | exact .inr (.inr rfl)) (by decide) (by decide)) xn) (pe_one (e_call F_is_count rfl (hr.mono (by decide)) (takes_of rfl rfl rfl rfl) rfl (aa_cons (e_v (i := 0) rfl (by first | exact .inl rfl | exact .inr (.inl rfl) | exact .inr (.inr rfl)) (by decide) (by decide)) aa_nil rfl) rfl)))) ss_nil)
def b_is_listed : List ST := [.ret (.isin (.v 0) [.list, .tuple])]
def g_is_listed : Ctx := ⟨[], [], [], ["Hours"], []⟩
def f_is_listed : Fn := ⟨1, none, semB g_is_listed 1 none b_is_listed⟩
theorem sc_is_listed : FnScope ["value"] ["value"] (defScope (top 14)) := ⟨rfl, rfl, rfl, by decide +kernel, rfl, by decide +kernel, by decide +kernel⟩
theorem ok_is_listed {f : Addr} {fd : FuncData} (F : Fun K "is_listed" "is_listed" (top 14) f fd) (z_isinstance : mg "isinstance" = none) (z_list : mg "list" = none) (z_tuple : mg "tuple" = none) (hC : ∀ C, C ∈ (["Hours"] : List Str) → IsC K C) (K_list : IsK K ["Hours"] .list (.type "list")) (K_tuple : IsK K ["Hours"] .tuple (.type "tuple")) :
    FnOk P w K mg base (L2.CX P w) 1 f fd ["value"] (spF K 1 none (semB g_is_listed 1 none b_is_listed)) :=
  have S := sc_is_listed
  fn_body F S (by decide) fun cdv A outer s H E hr =>
    (ss_cons (st_ret (e_isin2 hC K_list K_tuple (.ty "list") (.ty "tuple") (e_v (i := 0) rfl (by first | exact .inl rfl | exact .inr (.inl rfl) | exact .inr (.inr rfl)) (by decide) (by decide)) (pe_bltn rfl z_list (by decide +kernel) rfl) (pe_bltn rfl z_tuple (by decide +kernel) rfl) rfl z_isinstance rfl rfl rfl)) ss_nil)
def b_need_count : List ST := [.if_ (.not_ (.call 0 [.v 0])) [.raise "BadNumber" "number" (.v 0)] []]
def g_need_count : Ctx := ⟨[f_is_count], [], [], ["Hours"], []⟩
def f_need_count : Fn := ⟨1, none, semB g_need_count 1 none b_need_count⟩
theorem cl_need_count_0 {a0 : IR} {env : Env} : ev g_need_count (.call 0 [a0]) env = (evs g_need_count [a0] env).bind fun ds e1 => runF e1 (f_is_count.sem ds) := ev_call rfl rfl rfl
theorem sc_need_count : FnScope ["number"] ["number"] (defScope (top 16)) := ⟨rfl, rfl, rfl, by decide +kernel, rfl, by decide +kernel, by decide +kernel⟩
theorem ok_need_count {f : Addr} {fd : FuncData} (F : Fun K "need_count" "need_count" (top 16) f fd) {I_BadNumber : Addr} (T_BadNumber : PySem.ErrBadNumber.LowTxt K mg (clsAt K "BadNumber") I_BadNumber) (F_is_count : FnF P w K mg base 2 "is_count" f_is_count) :
    FnOk P w K mg base (L2.CX P w) 3 f fd ["number"] (spF K 1 none (semB g_need_count 1 none b_need_count)) :=
  have S := sc_need_count
  fn_body F S (by decide) fun cdv A outer s H E hr =>
    (ss_cons (st_if (t_not (t_truth (e_call F_is_count rfl (hr.mono (by decide)) (takes_of rfl rfl rfl rfl) rfl (aa_cons (e_v (i := 0) rfl (by first | exact .inl rfl | exact .inr (.inl rfl) | exact .inr (.inr rfl)) (by decide) (by decide)) aa_nil rfl) rfl) (fun _ => rfl))) (ss_cons (st_raise (ps_raiseLow_BadNumber rfl T_BadNumber hr.r (takes_of rfl rfl rfl rfl) (as_cons (e_v (i := 0) rfl (by first | exact .inl rfl | exact .inr (.inl rfl) | exact .inr (.inr rfl)) (by decide) (by decide)) as_nil rfl))) ss_nil) ss_nil) ss_nil)
def b_need_minute : List ST := [.if_ (.not_ (.call 0 [.v 0])) [.raise "BadNumber" "number" (.v 0)] []]
def g_need_minute : Ctx := ⟨[f_is_count_or_never], [], [], ["Hours"], []⟩
def f_need_minute : Fn := ⟨1, none, semB g_need_minute 1 none b_need_minute⟩
theorem cl_need_minute_0 {a0 : IR} {env : Env} : ev g_need_minute (.call 0 [a0]) env = (evs g_need_minute [a0] env).bind fun ds e1 => runF e1 (f_is_count_or_never.sem ds) := ev_call rfl rfl rfl
theorem sc_need_minute : FnScope ["number"] ["number"] (defScope (top 17)) := ⟨rfl, rfl, rfl, by decide +kernel, rfl, by decide +kernel, by decide +kernel⟩
theorem ok_need_minute {f : Addr} {fd : FuncData} (F : Fun K "need_minute" "need_minute" (top 17) f fd) {I_BadNumber : Addr} (T_BadNumber : PySem.ErrBadNumber.LowTxt K mg (clsAt K "BadNumber") I_BadNumber) (F_is_count_or_never : FnF P w K mg base 3 "is_count_or_never" f_is_count_or_never) :
    FnOk P w K mg base (L2.CX P w) 4 f fd ["number"] (spF K 1 none (semB g_need_minute 1 none b_need_minute)) :=
  have S := sc_need_minute
  fn_body F S (by decide) fun cdv A outer s H E hr =>
    (ss_cons (st_if (t_not (t_truth (e_call F_is_count_or_never rfl (hr.mono (by decide)) (takes_of rfl rfl rfl rfl) rfl (aa_cons (e_v (i := 0) rfl (by first | exact .inl rfl | exact .inr (.inl rfl) | exact .inr (.inr rfl)) (by decide) (by decide)) aa_nil rfl) rfl) (fun _ => rfl))) (ss_cons (st_raise (ps_raiseLow_BadNumber rfl T_BadNumber hr.r (takes_of rfl rfl rfl rfl) (as_cons (e_v (i := 0) rfl (by first | exact .inl rfl | exact .inr (.inl rfl) | exact .inr (.inr rfl)) (by decide) (by decide)) as_nil rfl))) ss_nil) ss_nil) ss_nil)
def b_need_minutes : List ST := [.if_ (.or_ (.not_ (.call 0 [.v 1])) (.not_ (.blt .all [.lc (.name 2) (.seq (.v 1)) none (.call 1 [.v 2]) [2]]))) [.raise "BadPart" "part" (.v 0)] []]
def g_need_minutes : Ctx := ⟨[f_is_listed, f_is_count_or_never], [], [], ["Hours"], []⟩
def f_need_minutes : Fn := ⟨2, none, semB g_need_minutes 3 none b_need_minutes⟩
theorem cl_need_minutes_0 {a0 : IR} {env : Env} : ev g_need_minutes (.call 0 [a0]) env = (evs g_need_minutes [a0] env).bind fun ds e1 => runF e1 (f_is_listed.sem ds) := ev_call rfl rfl rfl
theorem cl_need_minutes_1 {a0 : IR} {env : Env} : ev g_need_minutes (.call 1 [a0]) env = (evs g_need_minutes [a0] env).bind fun ds e1 => runF e1 (f_is_count_or_never.sem ds) := ev_call rfl rfl rfl
theorem sc_need_minutes : FnScope ["part", "minutes", "minute"] ["part", "minutes"] (defScope (top 18)) := ⟨rfl, rfl, rfl, by decide +kernel, rfl, by decide +kernel, by decide +kernel⟩
theorem ok_need_minutes {f : Addr} {fd : FuncData} (F : Fun K "need_minutes" "need_minutes" (top 18) f fd) {I_BadPart : Addr} (T_BadPart : PySem.ErrBadPart.LowTxt K mg (clsAt K "BadPart") I_BadPart) (F_is_listed : FnF P w K mg base 1 "is_listed" f_is_listed) (F_is_count_or_never : FnF P w K mg base 3 "is_count_or_never" f_is_count_or_never) (z_all : mg "all" = none) :
    FnOk P w K mg base (L2.CX P w) 4 f fd ["part", "minutes"] (spF K 2 none (semB g_need_minutes 3 none b_need_minutes)) :=
  have S := sc_need_minutes
  fn_body F S (by decide) fun cdv A outer s H E hr =>
    (ss_cons (st_if (PW.pt (w_or (t_not (t_truth (e_call F_is_listed rfl (hr.mono (by decide)) (takes_of rfl rfl rfl rfl) rfl (aa_cons (e_v (i := 1) rfl (by first | exact .inl rfl | exact .inr (.inl rfl) | exact .inr (.inr rfl)) (by decide) (by decide)) aa_nil rfl) rfl) (fun _ => rfl))) (w_or1 (t_not (t_truth (b_all rfl z_all rfl (e_lc (own := [("minute", 2)]) rfl S.nd (i_seq (e_v (i := 1) rfl (by first | exact .inl rfl | exact .inr (.inl rfl) | exact .inr (.inr rfl)) (by decide) (by decide))) (blkOk_by (N := ["part", "minutes", "minute"]) (sc := defScope (top 18)) (by decide +kernel)) (fun _ _ _ _ _ => (pg_name (i := 2) S.nd rfl (by first | exact .inl rfl | exact .inr rfl) (by first | exact .inl rfl | exact .inr rfl))) (fun _ _ _ _ _ => pts_nil) (fun _ _ _ _ _ => (e_call F_is_count_or_never rfl (hr.mono (by decide)) takes0 rfl (aa_cons (e_v (i := 2) rfl (by first | exact .inl rfl | exact .inr (.inl rfl) | exact .inr (.inr rfl)) (by decide) (by decide)) aa_nil rfl) rfl)) (fun _ => rfl)) rfl) (fun _ => rfl)))))) (ss_cons (st_raise (ps_raiseLow_BadPart rfl T_BadPart hr.r (takes_of rfl rfl rfl rfl) (as_cons (e_v (i := 0) rfl (by first | exact .inl rfl | exact .inr (.inl rfl) | exact .inr (.inr rfl)) (by decide) (by decide)) as_nil rfl))) ss_nil) ss_nil) ss_nil)
def b_need_desks : List ST := [.if_ (.not_ (.call 0 [.v 0, .c (.int 1), .c (.int 3)])) [.raise "BadNumber" "number" (.v 0)] []]
def g_need_desks : Ctx := ⟨[f_is_between], [], [], ["Hours"], []⟩
def f_need_desks : Fn := ⟨1, none, semB g_need_desks 1 none b_need_desks⟩
theorem sc_need_desks : FnScope ["desks"] ["desks"] (defScope (top 19)) := ⟨rfl, rfl, rfl, by decide +kernel, rfl, by decide +kernel, by decide +kernel⟩
theorem ok_need_desks {f : Addr} {fd : FuncData} (F : Fun K "need_desks" "need_desks" (top 19) f fd) {I_BadNumber : Addr} (T_BadNumber : PySem.ErrBadNumber.LowTxt K mg (clsAt K "BadNumber") I_BadNumber) (F_is_between : FnF P w K mg base 2 "is_between" f_is_between) {t_MOST_DESKS : Nat} (c_MOST_DESKS : mg "MOST_DESKS" = some (.int 3 t_MOST_DESKS)) :
    FnOk P w K mg base (L2.CX P w) 3 f fd ["desks"] (spF K 1 none (semB g_need_desks 1 none b_need_desks)) :=
  have S := sc_need_desks
  fn_body F S (by decide) fun cdv A outer s H E hr =>
    (ss_cons (st_if (t_not (t_truth (e_call F_is_between rfl (hr.mono (by decide)) (takes_of rfl rfl rfl rfl) rfl (aa_cons (e_v (i := 0) rfl (by first | exact .inl rfl | exact .inr (.inl rfl) | exact .inr (.inr rfl)) (by decide) (by decide)) (aa_cons xi (aa_cons (xg c_MOST_DESKS rfl (by decide)) aa_nil rfl) rfl) rfl) rfl) (fun _ => rfl))) (ss_cons (st_raise (ps_raiseLow_BadNumber rfl T_BadNumber hr.r (takes_of rfl rfl rfl rfl) (as_cons (e_v (i := 0) rfl (by first | exact .inl rfl | exact .inr (.inl rfl) | exact .inr (.inr rfl)) (by decide) (by decide)) as_nil rfl))) ss_nil) ss_nil) ss_nil)
def b_minutes_more : List ST := [.ret (.ite (.cmp .is_ (.v 0) (.c .non)) (.c .non) (.bin .add (.v 0) (.v 1)))]
def g_minutes_more : Ctx := ⟨[], [], [], ["Hours"], []⟩
def f_minutes_more : Fn := ⟨2, none, semB g_minutes_more 2 none b_minutes_more⟩
theorem sc_minutes_more : FnScope ["minute", "more"] ["minute", "more"] (defScope (top 21)) := ⟨rfl, rfl, rfl, by decide +kernel, rfl, by decide +kernel, by decide +kernel⟩
theorem ok_minutes_more {f : Addr} {fd : FuncData} (F : Fun K "minutes_more" "minutes_more" (top 21) f fd)  :
    FnOk P w K mg base (L2.CX P w) 1 f fd ["minute", "more"] (spF K 2 none (semB g_minutes_more 2 none b_minutes_more)) :=
  have S := sc_minutes_more
  fn_body F S (by decide) fun cdv A outer s H E hr =>
    (ss_cons (st_ret (e_ite (y_is (e_v (i := 0) rfl (by first | exact .inl rfl | exact .inr (.inl rfl) | exact .inr (.inr rfl)) (by decide) (by decide)) xn) xn (x_add (e_v (i := 0) rfl (by first | exact .inl rfl | exact .inr (.inl rfl) | exact .inr (.inr rfl)) (by decide) (by decide)) (e_v (i := 1) rfl (by first | exact .inl rfl | exact .inr (.inl rfl) | exact .inr (.inr rfl)) (by decide) (by decide))))) ss_nil)
def b_nth_least : List ST := [.asg (.name 2) (.blt .sorted [.lc (.name 3) (.seq (.v 0)) (some (.cmp .isnot (.v 3) (.c .non))) (.blt .int [.v 3]) [3]]), .ret (.ite (.cmp .le (.v 1) (.blt .len [.v 2])) (.ix (.v 2) (.bin .sub (.v 1) (.c (.int 1)))) (.c .non))]
def g_nth_least : Ctx := ⟨[], [], [], ["Hours"], []⟩
def f_nth_least : Fn := ⟨2, none, semB g_nth_least 4 none b_nth_least⟩
theorem sc_nth_least : FnScope ["minutes", "n", "numbers", "minute"] ["minutes", "n"] (defScope (top 22)) := ⟨rfl, rfl, rfl, by decide +kernel, rfl, by decide +kernel, by decide +kernel⟩
theorem ok_nth_least {f : Addr} {fd : FuncData} (F : Fun K "nth_least" "nth_least" (top 22) f fd) (z_sorted : mg "sorted" = none) (z_int : mg "int" = none) (z_len : mg "len" = none) :
    FnOk P w K mg base (L2.CX P w) 1 f fd ["minutes", "n"] (spF K 2 none (semB g_nth_least 4 none b_nth_least)) :=
  have S := sc_nth_least
  fn_body F S (by decide) fun cdv A outer s H E hr =>
    (ss_cons (st_asg (ps_set (i := 2) S.nd rfl (by first | exact .inl rfl | exact .inr rfl) (b_sorted z_sorted rfl (e_lc (own := [("minute", 3)]) rfl S.nd (i_seq (e_v (i := 0) rfl (by first | exact .inl rfl | exact .inr (.inl rfl) | exact .inr (.inr rfl)) (by decide) (by decide))) (blkOk_by (N := ["minutes", "n", "numbers", "minute"]) (sc := defScope (top 22)) (by decide +kernel)) (fun _ _ _ _ _ => (pg_name (i := 3) S.nd rfl (by first | exact .inl rfl | exact .inr rfl) (by first | exact .inl rfl | exact .inr rfl))) (fun _ _ _ _ _ => (pts_one (y_isnot (e_v (i := 3) rfl (by first | exact .inl rfl | exact .inr (.inl rfl) | exact .inr (.inr rfl)) (by decide) (by decide)) xn))) (fun _ _ _ _ _ => (b_int z_int rfl (e_v (i := 3) rfl (by first | exact .inl rfl | exact .inr (.inl rfl) | exact .inr (.inr rfl)) (by decide) (by decide)) rfl)) (fun _ => rfl)) rfl) rfl (by first | exact .inl rfl | exact .inr rfl))) (ss_cons (st_ret (e_ite (y_le (e_v (i := 1) rfl (by first | exact .inl rfl | exact .inr (.inl rfl) | exact .inr (.inr rfl)) (by decide) (by decide)) (b_len z_len rfl (e_v (i := 2) rfl (by first | exact .inl rfl | exact .inr (.inl rfl) | exact .inr (.inr rfl)) (by decide) (by decide)) rfl)) (e_ix (e_v (i := 2) rfl (by first | exact .inl rfl | exact .inr (.inl rfl) | exact .inr (.inr rfl)) (by decide) (by decide)) (x_sub (e_v (i := 1) rfl (by first | exact .inl rfl | exact .inr (.inl rfl) | exact .inr (.inr rfl)) (by decide) (by decide)) xi) (fun _ _ => rfl)) xn)) ss_nil))
def b_is_span : List ST := [.ret (.and_ (.isin (.v 0) [.tuple]) (.and_ (.cmp .eq (.blt .len [.v 0]) (.c (.int 2))) (.and_ (.call 0 [.ix (.v 0) (.c (.int 0))]) (.and_ (.call 0 [.ix (.v 0) (.c (.int 1))]) (.cmp .le (.ix (.v 0) (.c (.int 0))) (.ix (.v 0) (.c (.int 1))))))))]
def g_is_span : Ctx := ⟨[f_is_told_minute], [], [], ["Hours"], []⟩
def f_is_span : Fn := ⟨1, none, semB g_is_span 1 none b_is_span⟩
theorem cl_is_span_0 {a0 : IR} {env : Env} : ev g_is_span (.call 0 [a0]) env = (evs g_is_span [a0] env).bind fun ds e1 => runF e1 (f_is_told_minute.sem ds) := ev_call rfl rfl rfl
theorem sc_is_span : FnScope ["value"] ["value"] (defScope (top 24)) := ⟨rfl, rfl, rfl, by decide +kernel, rfl, by decide +kernel, by decide +kernel⟩
theorem ok_is_span {f : Addr} {fd : FuncData} (F : Fun K "is_span" "is_span" (top 24) f fd) (F_is_told_minute : FnF P w K mg base 3 "is_told_minute" f_is_told_minute) (z_isinstance : mg "isinstance" = none) (z_tuple : mg "tuple" = none) (z_len : mg "len" = none) (hC : ∀ C, C ∈ (["Hours"] : List Str) → IsC K C) (K_tuple : IsK K ["Hours"] .tuple (.type "tuple")) :
    FnOk P w K mg base (L2.CX P w) 4 f fd ["value"] (spF K 1 none (semB g_is_span 1 none b_is_span)) :=
  have S := sc_is_span
  fn_body F S (by decide) fun cdv A outer s H E hr =>
    (ss_cons (st_ret (e_and (e_isin1 hC K_tuple (.ty "tuple") (e_v (i := 0) rfl (by first | exact .inl rfl | exact .inr (.inl rfl) | exact .inr (.inr rfl)) (by decide) (by decide)) (pe_bltn rfl z_tuple (by decide +kernel) rfl) rfl z_isinstance rfl rfl) (e_and (x_eq (hu64 hr) (b_len z_len rfl (e_v (i := 0) rfl (by first | exact .inl rfl | exact .inr (.inl rfl) | exact .inr (.inr rfl)) (by decide) (by decide)) rfl) xi) (e_and (e_call F_is_told_minute rfl (hr.mono (by decide)) (takes_of rfl rfl rfl rfl) rfl (aa_cons (e_ix (e_v (i := 0) rfl (by first | exact .inl rfl | exact .inr (.inl rfl) | exact .inr (.inr rfl)) (by decide) (by decide)) xi (fun _ _ => rfl)) aa_nil rfl) rfl) (e_and (e_call F_is_told_minute rfl (hr.mono (by decide)) (takes_of rfl rfl rfl rfl) rfl (aa_cons (e_ix (e_v (i := 0) rfl (by first | exact .inl rfl | exact .inr (.inl rfl) | exact .inr (.inr rfl)) (by decide) (by decide)) xi (fun _ _ => rfl)) aa_nil rfl) rfl) (pe_one (x_le (e_ix (e_v (i := 0) rfl (by first | exact .inl rfl | exact .inr (.inl rfl) | exact .inr (.inr rfl)) (by decide) (by decide)) xi (fun _ _ => rfl)) (e_ix (e_v (i := 0) rfl (by first | exact .inl rfl | exact .inr (.inl rfl) | exact .inr (.inr rfl)) (by decide) (by decide)) xi (fun _ _ => rfl))))))))) ss_nil)
def b_are_spans : List ST := [.if_ (.or_ (.cmp .gt (.blt .len [.v 0]) (.c (.int 4))) (.not_ (.blt .all [.lc (.name 2) (.seq (.v 0)) none (.call 0 [.v 2]) [2]]))) [.ret (.c (.bl false))] [], .ret (.blt .all [.lc (.name 1) (.rng2 (.c (.int 1)) (.blt .len [.v 0])) none (.cmp .lt (.ix (.ix (.v 0) (.bin .sub (.v 1) (.c (.int 1)))) (.c (.int 1))) (.ix (.ix (.v 0) (.v 1)) (.c (.int 0)))) [1]])]
def g_are_spans : Ctx := ⟨[f_is_span], [], [], ["Hours"], []⟩
def f_are_spans : Fn := ⟨1, none, semB g_are_spans 3 none b_are_spans⟩
theorem cl_are_spans_0 {a0 : IR} {env : Env} : ev g_are_spans (.call 0 [a0]) env = (evs g_are_spans [a0] env).bind fun ds e1 => runF e1 (f_is_span.sem ds) := ev_call rfl rfl rfl
theorem sc_are_spans : FnScope ["values", "index", "value"] ["values"] (defScope (top 25)) := ⟨rfl, rfl, rfl, by decide +kernel, rfl, by decide +kernel, by decide +kernel⟩
theorem ok_are_spans {f : Addr} {fd : FuncData} (F : Fun K "are_spans" "are_spans" (top 25) f fd) (F_is_span : FnF P w K mg base 4 "is_span" f_is_span) (z_len : mg "len" = none) (z_all : mg "all" = none) (z_range : mg "range" = none) :
    FnOk P w K mg base (L2.CX P w) 5 f fd ["values"] (spF K 1 none (semB g_are_spans 3 none b_are_spans)) :=
  have S := sc_are_spans
  fn_body F S (by decide) fun cdv A outer s H E hr =>
    (ss_cons (st_if (PW.pt (w_or (y_gt (b_len z_len rfl (e_v (i := 0) rfl (by first | exact .inl rfl | exact .inr (.inl rfl) | exact .inr (.inr rfl)) (by decide) (by decide)) rfl) xi) (w_or1 (t_not (t_truth (b_all rfl z_all rfl (e_lc (own := [("value", 2)]) rfl S.nd (i_seq (e_v (i := 0) rfl (by first | exact .inl rfl | exact .inr (.inl rfl) | exact .inr (.inr rfl)) (by decide) (by decide))) (blkOk_by (N := ["values", "index", "value"]) (sc := defScope (top 25)) (by decide +kernel)) (fun _ _ _ _ _ => (pg_name (i := 2) S.nd rfl (by first | exact .inl rfl | exact .inr rfl) (by first | exact .inl rfl | exact .inr rfl))) (fun _ _ _ _ _ => pts_nil) (fun _ _ _ _ _ => (e_call F_is_span rfl (hr.mono (by decide)) takes0 rfl (aa_cons (e_v (i := 2) rfl (by first | exact .inl rfl | exact .inr (.inl rfl) | exact .inr (.inr rfl)) (by decide) (by decide)) aa_nil rfl) rfl)) (fun _ => rfl)) rfl) (fun _ => rfl)))))) (ss_cons (st_ret xb) ss_nil) ss_nil) (ss_cons (st_ret (b_all rfl z_all rfl (e_lc (own := [("index", 1)]) rfl S.nd (i_rng2 rfl z_range xi (b_len z_len rfl (e_v (i := 0) rfl (by first | exact .inl rfl | exact .inr (.inl rfl) | exact .inr (.inr rfl)) (by decide) (by decide)) rfl) rfl rfl) (blkOk_by (N := ["values", "index", "value"]) (sc := defScope (top 25)) (by decide +kernel)) (fun _ _ _ _ _ => (pg_name (i := 1) S.nd rfl (by first | exact .inl rfl | exact .inr rfl) (by first | exact .inl rfl | exact .inr rfl))) (fun _ _ _ _ _ => pts_nil) (fun _ _ _ _ _ => (x_lt (e_ix (e_ix (e_v (i := 0) rfl (by first | exact .inl rfl | exact .inr (.inl rfl) | exact .inr (.inr rfl)) (by decide) (by decide)) (x_sub (e_v (i := 1) rfl (by first | exact .inl rfl | exact .inr (.inl rfl) | exact .inr (.inr rfl)) (by decide) (by decide)) xi) (fun _ _ => rfl)) xi (fun _ _ => rfl)) (e_ix (e_ix (e_v (i := 0) rfl (by first | exact .inl rfl | exact .inr (.inl rfl) | exact .inr (.inr rfl)) (by decide) (by decide)) (e_v (i := 1) rfl (by first | exact .inl rfl | exact .inr (.inl rfl) | exact .inr (.inr rfl)) (by decide) (by decide)) (fun _ _ => rfl)) xi (fun _ _ => rfl)))) (fun _ => rfl)) rfl)) ss_nil))
def b_gate_of : List ST := [.if_ (.or_ (.cmp .is_ (.v 2) (.c .non)) (.cmp .is_ (.v 0) (.c .non))) [.ret (.v 2)] [], .for_ (.tup [3, 4]) (.seq (.v 0)) [.if_ (.cmp .le (.bin .add (.blt .max2 [.blt .int [.v 3], .v 2]) (.v 1)) (.v 4)) [.ret (.blt .max2 [.blt .int [.v 3], .v 2])] []], .ret (.c .non)]
def g_gate_of : Ctx := ⟨[], [], [], ["Hours"], []⟩
def f_gate_of : Fn := ⟨3, none, semB g_gate_of 5 none b_gate_of⟩
theorem sc_gate_of : FnScope ["spans", "n", "t", "start", "end"] ["spans", "n", "t"] (defScope (top 26)) := ⟨rfl, rfl, rfl, by decide +kernel, rfl, by decide +kernel, by decide +kernel⟩
theorem ok_gate_of {f : Addr} {fd : FuncData} (F : Fun K "gate_of" "gate_of" (top 26) f fd) (z_max : mg "max" = none) (z_int : mg "int" = none) :
    FnOk P w K mg base (L2.CX P w) 1 f fd ["spans", "n", "t"] (spF K 3 none (semB g_gate_of 5 none b_gate_of)) :=
  have S := sc_gate_of
  fn_body F S (by decide) fun cdv A outer s H E hr =>
    (ss_cons (st_if (PW.pt (w_or (y_is (e_v (i := 2) rfl (by first | exact .inl rfl | exact .inr (.inl rfl) | exact .inr (.inr rfl)) (by decide) (by decide)) xn) (w_or1 (y_is (e_v (i := 0) rfl (by first | exact .inl rfl | exact .inr (.inl rfl) | exact .inr (.inr rfl)) (by decide) (by decide)) xn)))) (ss_cons (st_ret (e_v (i := 2) rfl (by first | exact .inl rfl | exact .inr (.inl rfl) | exact .inr (.inr rfl)) (by decide) (by decide))) ss_nil) ss_nil) (ss_cons (st_for (ps_for (passes_of rfl) rfl (i_seq (e_v (i := 0) rfl (by first | exact .inl rfl | exact .inr (.inl rfl) | exact .inr (.inr rfl)) (by decide) (by decide))) (pg_tl rfl (pgs_cons (pg_name (i := 3) S.nd rfl (by first | exact .inl rfl | exact .inr rfl) (by first | exact .inl rfl | exact .inr rfl)) (pgs_cons (pg_name (i := 4) S.nd rfl (by first | exact .inl rfl | exact .inr rfl) (by first | exact .inl rfl | exact .inr rfl)) pgs_nil))) (ss_cons (st_if (y_le (x_add (b_max rfl z_max rfl (b_int z_int rfl (e_v (i := 3) rfl (by first | exact .inl rfl | exact .inr (.inl rfl) | exact .inr (.inr rfl)) (by decide) (by decide)) rfl) (e_v (i := 2) rfl (by first | exact .inl rfl | exact .inr (.inl rfl) | exact .inr (.inr rfl)) (by decide) (by decide)) rfl rfl) (e_v (i := 1) rfl (by first | exact .inl rfl | exact .inr (.inl rfl) | exact .inr (.inr rfl)) (by decide) (by decide))) (e_v (i := 4) rfl (by first | exact .inl rfl | exact .inr (.inl rfl) | exact .inr (.inr rfl)) (by decide) (by decide))) (ss_cons (st_ret (b_max rfl z_max rfl (b_int z_int rfl (e_v (i := 3) rfl (by first | exact .inl rfl | exact .inr (.inl rfl) | exact .inr (.inr rfl)) (by decide) (by decide)) rfl) (e_v (i := 2) rfl (by first | exact .inl rfl | exact .inr (.inl rfl) | exact .inr (.inr rfl)) (by decide) (by decide)) rfl rfl)) ss_nil) ss_nil) ss_nil) (fun _ => rfl))) (ss_cons (st_ret xn) ss_nil)))
def b_are_within : List ST := [.if_ (.or_ (.cmp .is_ (.v 0) (.c .non)) (.cmp .is_ (.v 1) (.c .non))) [.ret (.cmp .is_ (.v 1) (.c .non))] [], .ret (.blt .all [.lc (.tup [2, 3]) (.seq (.v 0)) none (.blt .any [.lc (.tup [4, 5]) (.seq (.v 1)) none (.and_ (.cmp .le (.v 4) (.v 2)) (.cmp .le (.v 3) (.v 5))) [4, 5]]) [2, 3]])]
def g_are_within : Ctx := ⟨[], [], [], ["Hours"], []⟩
def f_are_within : Fn := ⟨2, none, semB g_are_within 6 none b_are_within⟩
theorem sc_are_within : FnScope ["spans", "others", "start", "end", "low", "high"] ["spans", "others"] (defScope (top 27)) := ⟨rfl, rfl, rfl, by decide +kernel, rfl, by decide +kernel, by decide +kernel⟩
theorem ok_are_within {f : Addr} {fd : FuncData} (F : Fun K "are_within" "are_within" (top 27) f fd) (z_all : mg "all" = none) (z_any : mg "any" = none) :
    FnOk P w K mg base (L2.CX P w) 1 f fd ["spans", "others"] (spF K 2 none (semB g_are_within 6 none b_are_within)) :=
  have S := sc_are_within
  fn_body F S (by decide) fun cdv A outer s H E hr =>
    (ss_cons (st_if (PW.pt (w_or (y_is (e_v (i := 0) rfl (by first | exact .inl rfl | exact .inr (.inl rfl) | exact .inr (.inr rfl)) (by decide) (by decide)) xn) (w_or1 (y_is (e_v (i := 1) rfl (by first | exact .inl rfl | exact .inr (.inl rfl) | exact .inr (.inr rfl)) (by decide) (by decide)) xn)))) (ss_cons (st_ret (x_is (e_v (i := 1) rfl (by first | exact .inl rfl | exact .inr (.inl rfl) | exact .inr (.inr rfl)) (by decide) (by decide)) xn)) ss_nil) ss_nil) (ss_cons (st_ret (b_all rfl z_all rfl (e_lc (own := [("start", 2), ("end", 3)]) rfl S.nd (i_seq (e_v (i := 0) rfl (by first | exact .inl rfl | exact .inr (.inl rfl) | exact .inr (.inr rfl)) (by decide) (by decide))) (blkOk_by (N := ["spans", "others", "start", "end", "low", "high"]) (sc := defScope (top 27)) (by decide +kernel)) (fun _ _ _ _ _ => (pg_tl rfl (pgs_cons (pg_name (i := 2) S.nd rfl (by first | exact .inl rfl | exact .inr rfl) (by first | exact .inl rfl | exact .inr rfl)) (pgs_cons (pg_name (i := 3) S.nd rfl (by first | exact .inl rfl | exact .inr rfl) (by first | exact .inl rfl | exact .inr rfl)) pgs_nil)))) (fun _ _ _ _ _ => pts_nil) (fun _ _ _ _ _ => (b_any rfl z_any rfl (e_lc (own := [("low", 4), ("high", 5)]) rfl S.nd (i_seq (e_v (i := 1) rfl (by first | exact .inl rfl | exact .inr (.inl rfl) | exact .inr (.inr rfl)) (by decide) (by decide))) (blkOk_by rfl) (fun _ _ _ _ _ => (pg_tl rfl (pgs_cons (pg_name (i := 4) S.nd rfl (by first | exact .inl rfl | exact .inr rfl) (by first | exact .inl rfl | exact .inr rfl)) (pgs_cons (pg_name (i := 5) S.nd rfl (by first | exact .inl rfl | exact .inr rfl) (by first | exact .inl rfl | exact .inr rfl)) pgs_nil)))) (fun _ _ _ _ _ => pts_nil) (fun _ _ _ _ _ => (e_and (x_le (e_v (i := 4) rfl (by first | exact .inl rfl | exact .inr (.inl rfl) | exact .inr (.inr rfl)) (by decide) (by decide)) (e_v (i := 2) rfl (by first | exact .inl rfl | exact .inr (.inl rfl) | exact .inr (.inr rfl)) (by decide) (by decide))) (pe_one (x_le (e_v (i := 3) rfl (by first | exact .inl rfl | exact .inr (.inl rfl) | exact .inr (.inr rfl)) (by decide) (by decide)) (e_v (i := 5) rfl (by first | exact .inl rfl | exact .inr (.inl rfl) | exact .inr (.inr rfl)) (by decide) (by decide)))))) (fun _ => rfl)) rfl)) (fun _ => rfl)) rfl)) ss_nil))
def k_Hours_0 : Mkr := ⟨k_Hours.C, 0, k_Hours.ns, fun ds => k_Hours.sem (ds ++ [.non])⟩
def b_Hours___init__ : List ST := [.if_ (.and_ (.cmp .isnot (.v 1) (.c .non)) (.not_ (.and_ (.call 0 [.v 1]) (.call 1 [.v 1])))) [.raise "BadPart" "part" (.c (.str "hours"))] []]
def t_Hours___init__ : List (Str × IR) := [("_spans", .ite (.cmp .is_ (.v 1) (.c .non)) (.c .non) (.blt .tuple [.v 1]))]
def g_Hours___init__ : Ctx := ⟨[f_is_listed, f_are_spans], [], [], ["Hours"], []⟩
theorem sc_Hours___init__ : FnScope ("self" :: ["spans"]) ("self" :: ["spans"]) (defScope (inTop 28 0)) := ⟨rfl, rfl, rfl, by decide +kernel, rfl, by decide +kernel, by decide +kernel⟩
theorem ok_Hours___init__ {f : Addr} {fd : FuncData} {dvs : List V} {kws : List (Str × V)} {F : List D → FR} (Fd : FunD K "__init__" "Hours.__init__" (defArgs (inTop 28 0)) (defBody (inTop 28 0)) (defScope (inTop 28 0)) dvs kws f fd) (cl : Cls K (clsAt K "Hours")) (na : ∀ f, f ∈ (t_Hours___init__.map (·.1)) → NoAttr K (clsAt K "Hours") f) (hI : InitF g_Hours___init__ 1 b_Hours___init__ t_Hours___init__ F) {I_BadPart : Addr} (T_BadPart : PySem.ErrBadPart.LowTxt K mg (clsAt K "BadPart") I_BadPart) (F_is_listed : FnF P w K mg base 1 "is_listed" f_is_listed) (F_are_spans : FnF P w K mg base 5 "are_spans" f_are_spans) (z_tuple : mg "tuple" = none) :
    FnOk P w K mg base (L2.CX P w) 6 f fd ("self" :: ["spans"]) (spMk K "Hours" 1 (t_Hours___init__.map (·.1)) F) :=
  have S := sc_Hours___init__
  fn_init Fd S rfl (by decide) hI cl (by decide +kernel) na (by decide) fun cdv A outer s H E hr =>
    (.step (st_if (PW.pt (w_and (y_isnot (e_v (i := 1) rfl (by first | exact .inl rfl | exact .inr (.inl rfl) | exact .inr (.inr rfl)) (by decide) (by decide)) xn) (w_and1 (t_not (PW.pt (w_and (t_truth (e_call F_is_listed rfl (hr.mono (by decide)) (takes_of rfl rfl rfl rfl) rfl (aa_cons (e_v (i := 1) rfl (by first | exact .inl rfl | exact .inr (.inl rfl) | exact .inr (.inr rfl)) (by decide) (by decide)) aa_nil rfl) rfl) (fun _ => rfl)) (w_and1 (t_truth (e_call F_are_spans rfl (hr.mono (by decide)) (takes_of rfl rfl rfl rfl) rfl (aa_cons (e_v (i := 1) rfl (by first | exact .inl rfl | exact .inr (.inl rfl) | exact .inr (.inr rfl)) (by decide) (by decide)) aa_nil rfl) rfl) (fun _ => rfl))))))))) (ss_cons (st_raise (ps_raiseLow_BadPart rfl T_BadPart hr.r (takes_of rfl rfl rfl rfl) (as_cons xs as_nil rfl))) ss_nil) ss_nil) (.last (tl_cons (ps_fld (pe_var (i := 0) rfl (by first | exact .inl rfl | exact .inr (.inl rfl) | exact .inr (.inr rfl))) (e_ite (y_is (e_v (i := 1) rfl (by first | exact .inl rfl | exact .inr (.inl rfl) | exact .inr (.inr rfl)) (by decide) (by decide)) xn) xn (b_tuple z_tuple rfl (e_v (i := 1) rfl (by first | exact .inl rfl | exact .inr (.inl rfl) | exact .inr (.inr rfl)) (by decide) (by decide)) rfl)) rfl) tl_nil)))
def b_Hours___eq__ : List ST := [.ret (.and_ (.isin (.v 1) [(.cls "Hours")]) (.cmp .eq (.fld (.v 0) "_spans") (.fld (.v 1) "_spans")))]
def g_Hours___eq__ : Ctx := ⟨[], [], [], ["Hours"], []⟩
def m_Hours___eq__ : Mt := ⟨"Hours", "__eq__", 2, semB g_Hours___eq__ 2 none b_Hours___eq__⟩
theorem sc_Hours___eq__ : FnScope ["self", "other"] ["self", "other"] (defScope (inTop 28 1)) := ⟨rfl, rfl, rfl, by decide +kernel, rfl, by decide +kernel, by decide +kernel⟩
theorem ok_Hours___eq__ {f : Addr} {fd : FuncData} (F : Fun K "__eq__" "Hours.__eq__" (inTop 28 1) f fd) (z_isinstance : mg "isinstance" = none) (hC : ∀ C, C ∈ (["Hours"] : List Str) → IsC K C) {a_Hours : Addr} (g_Hours : mg "Hours" = some (.ref a_Hours)) (K_Hours : IsK K ["Hours"] (.cls "Hours") (.ref a_Hours)) (hF : ClsF K ["Hours"] ["_spans"]) :
    FnOk P w K mg base (L2.CX P w) 1 f fd ["self", "other"] (spF K 2 none (semB g_Hours___eq__ 2 none b_Hours___eq__)) :=
  have S := sc_Hours___eq__
  fn_body F S (by decide) fun cdv A outer s H E hr =>
    (ss_cons (st_ret (e_and (e_isin1 hC K_Hours (.own _) (e_v (i := 1) rfl (by first | exact .inl rfl | exact .inr (.inl rfl) | exact .inr (.inr rfl)) (by decide) (by decide)) (pe_glob rfl g_Hours rfl) rfl z_isinstance rfl rfl) (pe_one (x_eq (hu64 hr) (e_fld hF (by decide) (e_v (i := 0) rfl (by first | exact .inl rfl | exact .inr (.inl rfl) | exact .inr (.inr rfl)) (by decide) (by decide)) rfl) (e_fld hF (by decide) (e_v (i := 1) rfl (by first | exact .inl rfl | exact .inr (.inl rfl) | exact .inr (.inr rfl)) (by decide) (by decide)) rfl))))) ss_nil)
def b_Hours___le__ : List ST := [.if_ (.not_ (.isin (.v 1) [(.cls "Hours")])) [.nev] [], .ret (.call 0 [.fld (.v 0) "_spans", .fld (.v 1) "_spans"])]
def g_Hours___le__ : Ctx := ⟨[f_are_within], [], [], ["Hours"], []⟩
def m_Hours___le__ : Mt := ⟨"Hours", "__le__", 2, semB g_Hours___le__ 2 none b_Hours___le__⟩
theorem sc_Hours___le__ : FnScope ["self", "other"] ["self", "other"] (defScope (inTop 28 2)) := ⟨rfl, rfl, rfl, by decide +kernel, rfl, by decide +kernel, by decide +kernel⟩
theorem ok_Hours___le__ {f : Addr} {fd : FuncData} (F : Fun K "__le__" "Hours.__le__" (inTop 28 2) f fd) (F_are_within : FnF P w K mg base 1 "are_within" f_are_within) (z_isinstance : mg "isinstance" = none) (hC : ∀ C, C ∈ (["Hours"] : List Str) → IsC K C) {a_Hours : Addr} (g_Hours : mg "Hours" = some (.ref a_Hours)) (K_Hours : IsK K ["Hours"] (.cls "Hours") (.ref a_Hours)) (hF : ClsF K ["Hours"] ["_spans"]) :
    FnOk P w K mg base (L2.CX P w) 2 f fd ["self", "other"] (spF K 2 none (semB g_Hours___le__ 2 none b_Hours___le__)) :=
  have S := sc_Hours___le__
  fn_body F S (by decide) fun cdv A outer s H E hr =>
    (ss_cons (st_if (t_not (t_truth (e_isin1 hC K_Hours (.own _) (e_v (i := 1) rfl (by first | exact .inl rfl | exact .inr (.inl rfl) | exact .inr (.inr rfl)) (by decide) (by decide)) (pe_glob rfl g_Hours rfl) rfl z_isinstance rfl rfl) (fun _ => rfl))) (ss_cons st_nev ss_nil) ss_nil) (ss_cons (st_ret (e_call F_are_within rfl (hr.mono (by decide)) (takes_of rfl rfl rfl rfl) rfl (aa_cons (e_fld hF (by decide) (e_v (i := 0) rfl (by first | exact .inl rfl | exact .inr (.inl rfl) | exact .inr (.inr rfl)) (by decide) (by decide)) rfl) (aa_cons (e_fld hF (by decide) (e_v (i := 1) rfl (by first | exact .inl rfl | exact .inr (.inl rfl) | exact .inr (.inr rfl)) (by decide) (by decide)) rfl) aa_nil rfl) rfl) rfl)) ss_nil))
def b_Hours_spans : List ST := [.ret (.ite (.cmp .is_ (.fld (.v 0) "_spans") (.c .non)) (.c .non) (.blt .list [.fld (.v 0) "_spans"]))]
def g_Hours_spans : Ctx := ⟨[], [], [], ["Hours"], []⟩
def m_Hours_spans : Mt := ⟨"Hours", "spans", 1, semB g_Hours_spans 1 none b_Hours_spans⟩
theorem sc_Hours_spans : FnScope ["self"] ["self"] (defScope (inTop 28 3)) := ⟨rfl, rfl, rfl, by decide +kernel, rfl, by decide +kernel, by decide +kernel⟩
theorem ok_Hours_spans {f : Addr} {fd : FuncData} (F : Fun K "spans" "Hours.spans" (inTop 28 3) f fd) (z_list : mg "list" = none) (hF : ClsF K ["Hours"] ["_spans"]) :
    FnOk P w K mg base (L2.CX P w) 1 f fd ["self"] (spF K 1 none (semB g_Hours_spans 1 none b_Hours_spans)) :=
  have S := sc_Hours_spans
  fn_body F S (by decide) fun cdv A outer s H E hr =>
    (ss_cons (st_ret (e_ite (y_is (e_fld hF (by decide) (e_v (i := 0) rfl (by first | exact .inl rfl | exact .inr (.inl rfl) | exact .inr (.inr rfl)) (by decide) (by decide)) rfl) xn) xn (b_list z_list rfl (e_fld hF (by decide) (e_v (i := 0) rfl (by first | exact .inl rfl | exact .inr (.inl rfl) | exact .inr (.inr rfl)) (by decide) (by decide)) rfl) rfl))) ss_nil)
def b_Hours_gate : List ST := [.expr (.call 0 [.v 1]), .expr (.call 1 [.v 2]), .ret (.call 2 [.fld (.v 0) "_spans", .v 1, .v 2])]
def g_Hours_gate : Ctx := ⟨[f_need_count, f_need_minute, f_gate_of], [], [], ["Hours"], []⟩
def m_Hours_gate : Mt := ⟨"Hours", "gate", 3, semB g_Hours_gate 3 none b_Hours_gate⟩
theorem cl_Hours_gate_0 {a0 : IR} {env : Env} : ev g_Hours_gate (.call 0 [a0]) env = (evs g_Hours_gate [a0] env).bind fun ds e1 => runF e1 (f_need_count.sem ds) := ev_call rfl rfl rfl
theorem cl_Hours_gate_1 {a0 : IR} {env : Env} : ev g_Hours_gate (.call 1 [a0]) env = (evs g_Hours_gate [a0] env).bind fun ds e1 => runF e1 (f_need_minute.sem ds) := ev_call rfl rfl rfl
theorem cl_Hours_gate_2 {a0 a1 a2 : IR} {env : Env} : ev g_Hours_gate (.call 2 [a0, a1, a2]) env = (evs g_Hours_gate [a0, a1, a2] env).bind fun ds e1 => runF e1 (f_gate_of.sem ds) := ev_call rfl rfl rfl
theorem sc_Hours_gate : FnScope ["self", "n", "t"] ["self", "n", "t"] (defScope (inTop 28 4)) := ⟨rfl, rfl, rfl, by decide +kernel, rfl, by decide +kernel, by decide +kernel⟩
theorem ok_Hours_gate {f : Addr} {fd : FuncData} (F : Fun K "gate" "Hours.gate" (inTop 28 4) f fd) (F_need_count : FnF P w K mg base 3 "need_count" f_need_count) (F_need_minute : FnF P w K mg base 4 "need_minute" f_need_minute) (F_gate_of : FnF P w K mg base 1 "gate_of" f_gate_of) (hF : ClsF K ["Hours"] ["_spans"]) :
    FnOk P w K mg base (L2.CX P w) 5 f fd ["self", "n", "t"] (spF K 3 none (semB g_Hours_gate 3 none b_Hours_gate)) :=
  have S := sc_Hours_gate
  fn_body F S (by decide) fun cdv A outer s H E hr =>
    (ss_cons (st_expr (e_call F_need_count rfl (hr.mono (by decide)) (takes_of rfl rfl rfl rfl) rfl (aa_cons (e_v (i := 1) rfl (by first | exact .inl rfl | exact .inr (.inl rfl) | exact .inr (.inr rfl)) (by decide) (by decide)) aa_nil rfl) rfl) rfl) (ss_cons (st_expr (e_call F_need_minute rfl (hr.mono (by decide)) (takes_of rfl rfl rfl rfl) rfl (aa_cons (e_v (i := 2) rfl (by first | exact .inl rfl | exact .inr (.inl rfl) | exact .inr (.inr rfl)) (by decide) (by decide)) aa_nil rfl) rfl) rfl) (ss_cons (st_ret (e_call F_gate_of rfl (hr.mono (by decide)) (takes_of rfl rfl rfl rfl) rfl (aa_cons (e_fld hF (by decide) (e_v (i := 0) rfl (by first | exact .inl rfl | exact .inr (.inl rfl) | exact .inr (.inr rfl)) (by decide) (by decide)) rfl) (aa_cons (e_v (i := 1) rfl (by first | exact .inl rfl | exact .inr (.inl rfl) | exact .inr (.inr rfl)) (by decide) (by decide)) (aa_cons (e_v (i := 2) rfl (by first | exact .inl rfl | exact .inr (.inl rfl) | exact .inr (.inr rfl)) (by decide) (by decide)) aa_nil rfl) rfl) rfl) rfl)) ss_nil)))
def b_later_by : List ST := [.expr (.call 0 [.v 0]), .expr (.call 1 [.v 1]), .ret (.call 2 [.v 0, .v 1])]
def g_later_by : Ctx := ⟨[f_need_minute, f_need_count, f_minutes_more], [], [], ["Hours"], []⟩
def f_later_by : Fn := ⟨2, none, semB g_later_by 2 none b_later_by⟩
theorem cl_later_by_0 {a0 : IR} {env : Env} : ev g_later_by (.call 0 [a0]) env = (evs g_later_by [a0] env).bind fun ds e1 => runF e1 (f_need_minute.sem ds) := ev_call rfl rfl rfl
theorem cl_later_by_1 {a0 : IR} {env : Env} : ev g_later_by (.call 1 [a0]) env = (evs g_later_by [a0] env).bind fun ds e1 => runF e1 (f_need_count.sem ds) := ev_call rfl rfl rfl
theorem cl_later_by_2 {a0 a1 : IR} {env : Env} : ev g_later_by (.call 2 [a0, a1]) env = (evs g_later_by [a0, a1] env).bind fun ds e1 => runF e1 (f_minutes_more.sem ds) := ev_call rfl rfl rfl
theorem sc_later_by : FnScope ["moment", "more"] ["moment", "more"] (defScope (top 30)) := ⟨rfl, rfl, rfl, by decide +kernel, rfl, by decide +kernel, by decide +kernel⟩
theorem ok_later_by {f : Addr} {fd : FuncData} (F : Fun K "later_by" "later_by" (top 30) f fd) (F_need_minute : FnF P w K mg base 4 "need_minute" f_need_minute) (F_need_count : FnF P w K mg base 3 "need_count" f_need_count) (F_minutes_more : FnF P w K mg base 1 "minutes_more" f_minutes_more) :
    FnOk P w K mg base (L2.CX P w) 5 f fd ["moment", "more"] (spF K 2 none (semB g_later_by 2 none b_later_by)) :=
  have S := sc_later_by
  fn_body F S (by decide) fun cdv A outer s H E hr =>
    (ss_cons (st_expr (e_call F_need_minute rfl (hr.mono (by decide)) (takes_of rfl rfl rfl rfl) rfl (aa_cons (e_v (i := 0) rfl (by first | exact .inl rfl | exact .inr (.inl rfl) | exact .inr (.inr rfl)) (by decide) (by decide)) aa_nil rfl) rfl) rfl) (ss_cons (st_expr (e_call F_need_count rfl (hr.mono (by decide)) (takes_of rfl rfl rfl rfl) rfl (aa_cons (e_v (i := 1) rfl (by first | exact .inl rfl | exact .inr (.inl rfl) | exact .inr (.inr rfl)) (by decide) (by decide)) aa_nil rfl) rfl) rfl) (ss_cons (st_ret (e_call F_minutes_more rfl (hr.mono (by decide)) (takes_of rfl rfl rfl rfl) rfl (aa_cons (e_v (i := 0) rfl (by first | exact .inl rfl | exact .inr (.inl rfl) | exact .inr (.inr rfl)) (by decide) (by decide)) (aa_cons (e_v (i := 1) rfl (by first | exact .inl rfl | exact .inr (.inl rfl) | exact .inr (.inr rfl)) (by decide) (by decide)) aa_nil rfl) rfl) rfl)) ss_nil)))
def b_greatest : List ST := [.expr (.call 0 [.c (.str "moments"), .v 0]), .ret (.ite (.v 0) (.call 1 [.v 0, .blt .len [.v 0]]) (.c (.int 0)))]
def g_greatest : Ctx := ⟨[f_need_minutes, f_nth_least], [], [], ["Hours"], []⟩
def f_greatest : Fn := ⟨1, none, semB g_greatest 1 none b_greatest⟩
theorem cl_greatest_0 {a0 a1 : IR} {env : Env} : ev g_greatest (.call 0 [a0, a1]) env = (evs g_greatest [a0, a1] env).bind fun ds e1 => runF e1 (f_need_minutes.sem ds) := ev_call rfl rfl rfl
theorem cl_greatest_1 {a0 a1 : IR} {env : Env} : ev g_greatest (.call 1 [a0, a1]) env = (evs g_greatest [a0, a1] env).bind fun ds e1 => runF e1 (f_nth_least.sem ds) := ev_call rfl rfl rfl
theorem sc_greatest : FnScope ["moments"] ["moments"] (defScope (top 31)) := ⟨rfl, rfl, rfl, by decide +kernel, rfl, by decide +kernel, by decide +kernel⟩
theorem ok_greatest {f : Addr} {fd : FuncData} (F : Fun K "greatest" "greatest" (top 31) f fd) (F_need_minutes : FnF P w K mg base 4 "need_minutes" f_need_minutes) (F_nth_least : FnF P w K mg base 1 "nth_least" f_nth_least) (z_len : mg "len" = none) :
    FnOk P w K mg base (L2.CX P w) 5 f fd ["moments"] (spF K 1 none (semB g_greatest 1 none b_greatest)) :=
  have S := sc_greatest
  fn_body F S (by decide) fun cdv A outer s H E hr =>
    (ss_cons (st_expr (e_call F_need_minutes rfl (hr.mono (by decide)) (takes_of rfl rfl rfl rfl) rfl (aa_cons xs (aa_cons (e_v (i := 0) rfl (by first | exact .inl rfl | exact .inr (.inl rfl) | exact .inr (.inr rfl)) (by decide) (by decide)) aa_nil rfl) rfl) rfl) rfl) (ss_cons (st_ret (e_ite (t_truth (e_v (i := 0) rfl (by first | exact .inl rfl | exact .inr (.inl rfl) | exact .inr (.inr rfl)) (by decide) (by decide)) (fun _ => rfl)) (e_call F_nth_least rfl (hr.mono (by decide)) (takes_of rfl rfl rfl rfl) rfl (aa_cons (e_v (i := 0) rfl (by first | exact .inl rfl | exact .inr (.inl rfl) | exact .inr (.inr rfl)) (by decide) (by decide)) (aa_cons (b_len z_len rfl (e_v (i := 0) rfl (by first | exact .inl rfl | exact .inr (.inl rfl) | exact .inr (.inr rfl)) (by decide) (by decide)) rfl) aa_nil rfl) rfl) rfl) xi)) ss_nil))
def b_desk_free : List ST := [.expr (.call 0 [.c (.str "ends"), .v 0]), .expr (.call 1 [.v 1]), .ret (.ite (.cmp .lt (.blt .len [.v 0]) (.v 1)) (.c (.int 0)) (.call 2 [.v 0, .bin .add (.bin .sub (.blt .len [.v 0]) (.v 1)) (.c (.int 1))]))]
def g_desk_free : Ctx := ⟨[f_need_minutes, f_need_desks, f_nth_least], [], [], ["Hours"], []⟩
def f_desk_free : Fn := ⟨2, none, semB g_desk_free 2 none b_desk_free⟩
theorem cl_desk_free_0 {a0 a1 : IR} {env : Env} : ev g_desk_free (.call 0 [a0, a1]) env = (evs g_desk_free [a0, a1] env).bind fun ds e1 => runF e1 (f_need_minutes.sem ds) := ev_call rfl rfl rfl
theorem cl_desk_free_1 {a0 : IR} {env : Env} : ev g_desk_free (.call 1 [a0]) env = (evs g_desk_free [a0] env).bind fun ds e1 => runF e1 (f_need_desks.sem ds) := ev_call rfl rfl rfl
theorem cl_desk_free_2 {a0 a1 : IR} {env : Env} : ev g_desk_free (.call 2 [a0, a1]) env = (evs g_desk_free [a0, a1] env).bind fun ds e1 => runF e1 (f_nth_least.sem ds) := ev_call rfl rfl rfl
theorem sc_desk_free : FnScope ["ends", "desks"] ["ends", "desks"] (defScope (top 32)) := ⟨rfl, rfl, rfl, by decide +kernel, rfl, by decide +kernel, by decide +kernel⟩
theorem ok_desk_free {f : Addr} {fd : FuncData} (F : Fun K "desk_free" "desk_free" (top 32) f fd) (F_need_minutes : FnF P w K mg base 4 "need_minutes" f_need_minutes) (F_need_desks : FnF P w K mg base 3 "need_desks" f_need_desks) (F_nth_least : FnF P w K mg base 1 "nth_least" f_nth_least) (z_len : mg "len" = none) :
    FnOk P w K mg base (L2.CX P w) 5 f fd ["ends", "desks"] (spF K 2 none (semB g_desk_free 2 none b_desk_free)) :=
  have S := sc_desk_free
  fn_body F S (by decide) fun cdv A outer s H E hr =>
    (ss_cons (st_expr (e_call F_need_minutes rfl (hr.mono (by decide)) (takes_of rfl rfl rfl rfl) rfl (aa_cons xs (aa_cons (e_v (i := 0) rfl (by first | exact .inl rfl | exact .inr (.inl rfl) | exact .inr (.inr rfl)) (by decide) (by decide)) aa_nil rfl) rfl) rfl) rfl) (ss_cons (st_expr (e_call F_need_desks rfl (hr.mono (by decide)) (takes_of rfl rfl rfl rfl) rfl (aa_cons (e_v (i := 1) rfl (by first | exact .inl rfl | exact .inr (.inl rfl) | exact .inr (.inr rfl)) (by decide) (by decide)) aa_nil rfl) rfl) rfl) (ss_cons (st_ret (e_ite (y_lt (b_len z_len rfl (e_v (i := 0) rfl (by first | exact .inl rfl | exact .inr (.inl rfl) | exact .inr (.inr rfl)) (by decide) (by decide)) rfl) (e_v (i := 1) rfl (by first | exact .inl rfl | exact .inr (.inl rfl) | exact .inr (.inr rfl)) (by decide) (by decide))) xi (e_call F_nth_least rfl (hr.mono (by decide)) (takes_of rfl rfl rfl rfl) rfl (aa_cons (e_v (i := 0) rfl (by first | exact .inl rfl | exact .inr (.inl rfl) | exact .inr (.inr rfl)) (by decide) (by decide)) (aa_cons (x_add (x_sub (b_len z_len rfl (e_v (i := 0) rfl (by first | exact .inl rfl | exact .inr (.inl rfl) | exact .inr (.inr rfl)) (by decide) (by decide)) rfl) (e_v (i := 1) rfl (by first | exact .inl rfl | exact .inr (.inl rfl) | exact .inr (.inr rfl)) (by decide) (by decide))) xi) aa_nil rfl) rfl) rfl))) ss_nil)))
def b_need_hours : List ST := [.if_ (.not_ (.isin (.v 0) [(.cls "Hours")])) [.raise "BadPart" "part" (.c (.str "hours"))] []]
def g_need_hours : Ctx := ⟨[], [], [], ["Hours"], []⟩
def f_need_hours : Fn := ⟨1, none, semB g_need_hours 1 none b_need_hours⟩
theorem sc_need_hours : FnScope ["hours"] ["hours"] (defScope (top 34)) := ⟨rfl, rfl, rfl, by decide +kernel, rfl, by decide +kernel, by decide +kernel⟩
theorem ok_need_hours {f : Addr} {fd : FuncData} (F : Fun K "need_hours" "need_hours" (top 34) f fd) {I_BadPart : Addr} (T_BadPart : PySem.ErrBadPart.LowTxt K mg (clsAt K "BadPart") I_BadPart) (z_isinstance : mg "isinstance" = none) (hC : ∀ C, C ∈ (["Hours"] : List Str) → IsC K C) {a_Hours : Addr} (g_Hours : mg "Hours" = some (.ref a_Hours)) (K_Hours : IsK K ["Hours"] (.cls "Hours") (.ref a_Hours)) :
    FnOk P w K mg base (L2.CX P w) 1 f fd ["hours"] (spF K 1 none (semB g_need_hours 1 none b_need_hours)) :=
  have S := sc_need_hours
  fn_body F S (by decide) fun cdv A outer s H E hr =>
    (ss_cons (st_if (t_not (t_truth (e_isin1 hC K_Hours (.own _) (e_v (i := 0) rfl (by first | exact .inl rfl | exact .inr (.inl rfl) | exact .inr (.inr rfl)) (by decide) (by decide)) (pe_glob rfl g_Hours rfl) rfl z_isinstance rfl rfl) (fun _ => rfl))) (ss_cons (st_raise (ps_raiseLow_BadPart rfl T_BadPart hr.r (takes_of rfl rfl rfl rfl) (as_cons xs as_nil rfl))) ss_nil) ss_nil) ss_nil)
def b_need_lengths : List ST := [.if_ (.or_ (.not_ (.call 0 [.v 0])) (.or_ (.cmp .ne (.blt .len [.v 0]) (.v 1)) (.not_ (.blt .all [.lc (.name 2) (.seq (.v 0)) none (.call 1 [.v 2]) [2]])))) [.raise "BadPart" "part" (.c (.str "lengths"))] []]
def g_need_lengths : Ctx := ⟨[f_is_listed, f_is_count], [], [], ["Hours"], []⟩
def f_need_lengths : Fn := ⟨2, none, semB g_need_lengths 3 none b_need_lengths⟩
theorem cl_need_lengths_0 {a0 : IR} {env : Env} : ev g_need_lengths (.call 0 [a0]) env = (evs g_need_lengths [a0] env).bind fun ds e1 => runF e1 (f_is_listed.sem ds) := ev_call rfl rfl rfl
theorem cl_need_lengths_1 {a0 : IR} {env : Env} : ev g_need_lengths (.call 1 [a0]) env = (evs g_need_lengths [a0] env).bind fun ds e1 => runF e1 (f_is_count.sem ds) := ev_call rfl rfl rfl
theorem sc_need_lengths : FnScope ["lengths", "many", "n"] ["lengths", "many"] (defScope (top 35)) := ⟨rfl, rfl, rfl, by decide +kernel, rfl, by decide +kernel, by decide +kernel⟩
theorem ok_need_lengths {f : Addr} {fd : FuncData} (F : Fun K "need_lengths" "need_lengths" (top 35) f fd) {I_BadPart : Addr} (T_BadPart : PySem.ErrBadPart.LowTxt K mg (clsAt K "BadPart") I_BadPart) (F_is_listed : FnF P w K mg base 1 "is_listed" f_is_listed) (F_is_count : FnF P w K mg base 2 "is_count" f_is_count) (z_len : mg "len" = none) (z_all : mg "all" = none) :
    FnOk P w K mg base (L2.CX P w) 3 f fd ["lengths", "many"] (spF K 2 none (semB g_need_lengths 3 none b_need_lengths)) :=
  have S := sc_need_lengths
  fn_body F S (by decide) fun cdv A outer s H E hr =>
    (ss_cons (st_if (PW.pt (w_or (t_not (t_truth (e_call F_is_listed rfl (hr.mono (by decide)) (takes_of rfl rfl rfl rfl) rfl (aa_cons (e_v (i := 0) rfl (by first | exact .inl rfl | exact .inr (.inl rfl) | exact .inr (.inr rfl)) (by decide) (by decide)) aa_nil rfl) rfl) (fun _ => rfl))) (w_or (y_ne (hu64 hr) (b_len z_len rfl (e_v (i := 0) rfl (by first | exact .inl rfl | exact .inr (.inl rfl) | exact .inr (.inr rfl)) (by decide) (by decide)) rfl) (e_v (i := 1) rfl (by first | exact .inl rfl | exact .inr (.inl rfl) | exact .inr (.inr rfl)) (by decide) (by decide))) (w_or1 (t_not (t_truth (b_all rfl z_all rfl (e_lc (own := [("n", 2)]) rfl S.nd (i_seq (e_v (i := 0) rfl (by first | exact .inl rfl | exact .inr (.inl rfl) | exact .inr (.inr rfl)) (by decide) (by decide))) (blkOk_by (N := ["lengths", "many", "n"]) (sc := defScope (top 35)) (by decide +kernel)) (fun _ _ _ _ _ => (pg_name (i := 2) S.nd rfl (by first | exact .inl rfl | exact .inr rfl) (by first | exact .inl rfl | exact .inr rfl))) (fun _ _ _ _ _ => pts_nil) (fun _ _ _ _ _ => (e_call F_is_count rfl (hr.mono (by decide)) takes0 rfl (aa_cons (e_v (i := 2) rfl (by first | exact .inl rfl | exact .inr (.inl rfl) | exact .inr (.inr rfl)) (by decide) (by decide)) aa_nil rfl) rfl)) (fun _ => rfl)) rfl) (fun _ => rfl))))))) (ss_cons (st_raise (ps_raiseLow_BadPart rfl T_BadPart hr.r (takes_of rfl rfl rfl rfl) (as_cons xs as_nil rfl))) ss_nil) ss_nil) ss_nil)
def b_counter_begin : List ST := [.expr (.call 0 [.v 0]), .expr (.call 0 [.v 1]), .expr (.call 1 [.c (.str "ends"), .v 2]), .expr (.call 2 [.v 3]), .expr (.call 3 [.v 4]), .expr (.call 4 [.v 5]), .ret (.meth 0 (.v 4) [.v 5, .call 5 [.lst [.v 0, .v 1, .call 6 [.v 2, .v 3]]]])]
def g_counter_begin : Ctx := ⟨[f_need_minute, f_need_minutes, f_need_desks, f_need_hours, f_need_count, f_greatest, f_desk_free], [m_Hours_gate], [], ["Hours"], []⟩
def f_counter_begin : Fn := ⟨6, none, semB g_counter_begin 6 none b_counter_begin⟩
theorem cl_counter_begin_0 {a0 : IR} {env : Env} : ev g_counter_begin (.call 0 [a0]) env = (evs g_counter_begin [a0] env).bind fun ds e1 => runF e1 (f_need_minute.sem ds) := ev_call rfl rfl rfl
theorem cl_counter_begin_1 {a0 a1 : IR} {env : Env} : ev g_counter_begin (.call 1 [a0, a1]) env = (evs g_counter_begin [a0, a1] env).bind fun ds e1 => runF e1 (f_need_minutes.sem ds) := ev_call rfl rfl rfl
theorem cl_counter_begin_2 {a0 : IR} {env : Env} : ev g_counter_begin (.call 2 [a0]) env = (evs g_counter_begin [a0] env).bind fun ds e1 => runF e1 (f_need_desks.sem ds) := ev_call rfl rfl rfl
theorem cl_counter_begin_3 {a0 : IR} {env : Env} : ev g_counter_begin (.call 3 [a0]) env = (evs g_counter_begin [a0] env).bind fun ds e1 => runF e1 (f_need_hours.sem ds) := ev_call rfl rfl rfl
theorem cl_counter_begin_4 {a0 : IR} {env : Env} : ev g_counter_begin (.call 4 [a0]) env = (evs g_counter_begin [a0] env).bind fun ds e1 => runF e1 (f_need_count.sem ds) := ev_call rfl rfl rfl
theorem cl_counter_begin_5 {a0 : IR} {env : Env} : ev g_counter_begin (.call 5 [a0]) env = (evs g_counter_begin [a0] env).bind fun ds e1 => runF e1 (f_greatest.sem ds) := ev_call rfl rfl rfl
theorem cl_counter_begin_6 {a0 a1 : IR} {env : Env} : ev g_counter_begin (.call 6 [a0, a1]) env = (evs g_counter_begin [a0, a1] env).bind fun ds e1 => runF e1 (f_desk_free.sem ds) := ev_call rfl rfl rfl
theorem sc_counter_begin : FnScope ["arrival", "begin_ahead", "ends_ahead", "desks", "hours", "n"] ["arrival", "begin_ahead", "ends_ahead", "desks", "hours", "n"] (defScope (top 36)) := ⟨rfl, rfl, rfl, by decide +kernel, rfl, by decide +kernel, by decide +kernel⟩
theorem ok_counter_begin {f : Addr} {fd : FuncData} (F : Fun K "counter_begin" "counter_begin" (top 36) f fd) (F_need_minute : FnF P w K mg base 4 "need_minute" f_need_minute) (F_need_minutes : FnF P w K mg base 4 "need_minutes" f_need_minutes) (F_need_desks : FnF P w K mg base 3 "need_desks" f_need_desks) (F_need_hours : FnF P w K mg base 1 "need_hours" f_need_hours) (F_need_count : FnF P w K mg base 3 "need_count" f_need_count) (F_greatest : FnF P w K mg base 5 "greatest" f_greatest) (F_desk_free : FnF P w K mg base 5 "desk_free" f_desk_free) (M_gate : MtF P w K mg base 5 m_Hours_gate) :
    FnOk P w K mg base (L2.CX P w) 6 f fd ["arrival", "begin_ahead", "ends_ahead", "desks", "hours", "n"] (spF K 6 none (semB g_counter_begin 6 none b_counter_begin)) :=
  have S := sc_counter_begin
  fn_body F S (by decide) fun cdv A outer s H E hr =>
    (ss_cons (st_expr (e_call F_need_minute rfl (hr.mono (by decide)) (takes_of rfl rfl rfl rfl) rfl (aa_cons (e_v (i := 0) rfl (by first | exact .inl rfl | exact .inr (.inl rfl) | exact .inr (.inr rfl)) (by decide) (by decide)) aa_nil rfl) rfl) rfl) (ss_cons (st_expr (e_call F_need_minute rfl (hr.mono (by decide)) (takes_of rfl rfl rfl rfl) rfl (aa_cons (e_v (i := 1) rfl (by first | exact .inl rfl | exact .inr (.inl rfl) | exact .inr (.inr rfl)) (by decide) (by decide)) aa_nil rfl) rfl) rfl) (ss_cons (st_expr (e_call F_need_minutes rfl (hr.mono (by decide)) (takes_of rfl rfl rfl rfl) rfl (aa_cons xs (aa_cons (e_v (i := 2) rfl (by first | exact .inl rfl | exact .inr (.inl rfl) | exact .inr (.inr rfl)) (by decide) (by decide)) aa_nil rfl) rfl) rfl) rfl) (ss_cons (st_expr (e_call F_need_desks rfl (hr.mono (by decide)) (takes_of rfl rfl rfl rfl) rfl (aa_cons (e_v (i := 3) rfl (by first | exact .inl rfl | exact .inr (.inl rfl) | exact .inr (.inr rfl)) (by decide) (by decide)) aa_nil rfl) rfl) rfl) (ss_cons (st_expr (e_call F_need_hours rfl (hr.mono (by decide)) (takes_of rfl rfl rfl rfl) rfl (aa_cons (e_v (i := 4) rfl (by first | exact .inl rfl | exact .inr (.inl rfl) | exact .inr (.inr rfl)) (by decide) (by decide)) aa_nil rfl) rfl) rfl) (ss_cons (st_expr (e_call F_need_count rfl (hr.mono (by decide)) (takes_of rfl rfl rfl rfl) rfl (aa_cons (e_v (i := 5) rfl (by first | exact .inl rfl | exact .inr (.inl rfl) | exact .inr (.inr rfl)) (by decide) (by decide)) aa_nil rfl) rfl) rfl) (ss_cons (st_ret (e_meth (m := m_Hours_gate) M_gate rfl (hr.mono (by decide)) (takes_of rfl rfl rfl rfl) (e_v (i := 4) rfl (by first | exact .inl rfl | exact .inr (.inl rfl) | exact .inr (.inr rfl)) (by decide) (by decide)) (as_cons (e_v (i := 5) rfl (by first | exact .inl rfl | exact .inr (.inl rfl) | exact .inr (.inr rfl)) (by decide) (by decide)) (as_cons (e_call F_greatest rfl (hr.mono (by decide)) (takes_of rfl rfl rfl rfl) rfl (aa_cons (e_lst (as_cons (e_v (i := 0) rfl (by first | exact .inl rfl | exact .inr (.inl rfl) | exact .inr (.inr rfl)) (by decide) (by decide)) (as_cons (e_v (i := 1) rfl (by first | exact .inl rfl | exact .inr (.inl rfl) | exact .inr (.inr rfl)) (by decide) (by decide)) (as_cons (e_call F_desk_free rfl (hr.mono (by decide)) (takes_of rfl rfl rfl rfl) rfl (aa_cons (e_v (i := 2) rfl (by first | exact .inl rfl | exact .inr (.inl rfl) | exact .inr (.inr rfl)) (by decide) (by decide)) (aa_cons (e_v (i := 3) rfl (by first | exact .inl rfl | exact .inr (.inl rfl) | exact .inr (.inr rfl)) (by decide) (by decide)) aa_nil rfl) rfl) rfl) as_nil rfl) rfl) rfl)) aa_nil rfl) rfl) as_nil rfl) rfl) rfl rfl)) ss_nil)))))))
def b_counter_row : List ST := [.expr (.call 0 [.c (.str "arrivals"), .v 0]), .expr (.call 1 [.v 1, .blt .len [.v 0]]), .expr (.call 2 [.v 2]), .expr (.call 3 [.v 3]), .new 4 (.lst []), .for_ (.tup [5, 6]) (.zip (.v 0) (.v 1)) [.asg (.name 7) (.ite (.v 4) (.ix (.ix (.v 4) (.neg (.c (.int 1)))) (.c (.int 0))) (.c (.int 0))), .asg (.name 8) (.call 4 [.v 5, .v 7, .lcf (.tup [9, 10]) 4 none (.v 10) [9, 10], .v 2, .v 3, .v 6]), .expr (.app 4 (.tup [.v 8, .call 5 [.v 8, .v 6]]))], .ret (.v 4)]
def g_counter_row : Ctx := ⟨[f_need_minutes, f_need_lengths, f_need_desks, f_need_hours, f_counter_begin, f_later_by], [], [], ["Hours"], []⟩
def f_counter_row : Fn := ⟨4, none, semB g_counter_row 11 none b_counter_row⟩
theorem cl_counter_row_0 {a0 a1 : IR} {env : Env} : ev g_counter_row (.call 0 [a0, a1]) env = (evs g_counter_row [a0, a1] env).bind fun ds e1 => runF e1 (f_need_minutes.sem ds) := ev_call rfl rfl rfl
theorem cl_counter_row_1 {a0 a1 : IR} {env : Env} : ev g_counter_row (.call 1 [a0, a1]) env = (evs g_counter_row [a0, a1] env).bind fun ds e1 => runF e1 (f_need_lengths.sem ds) := ev_call rfl rfl rfl
theorem cl_counter_row_2 {a0 : IR} {env : Env} : ev g_counter_row (.call 2 [a0]) env = (evs g_counter_row [a0] env).bind fun ds e1 => runF e1 (f_need_desks.sem ds) := ev_call rfl rfl rfl
theorem cl_counter_row_3 {a0 : IR} {env : Env} : ev g_counter_row (.call 3 [a0]) env = (evs g_counter_row [a0] env).bind fun ds e1 => runF e1 (f_need_hours.sem ds) := ev_call rfl rfl rfl
theorem cl_counter_row_4 {a0 a1 a2 a3 a4 a5 : IR} {env : Env} : ev g_counter_row (.call 4 [a0, a1, a2, a3, a4, a5]) env = (evs g_counter_row [a0, a1, a2, a3, a4, a5] env).bind fun ds e1 => runF e1 (f_counter_begin.sem ds) := ev_call rfl rfl rfl
theorem cl_counter_row_5 {a0 a1 : IR} {env : Env} : ev g_counter_row (.call 5 [a0, a1]) env = (evs g_counter_row [a0, a1] env).bind fun ds e1 => runF e1 (f_later_by.sem ds) := ev_call rfl rfl rfl
theorem sc_counter_row : FnScope ["arrivals", "lengths", "desks", "hours", "row", "arrival", "n", "begin_ahead", "begin", "_", "end"] ["arrivals", "lengths", "desks", "hours"] (defScope (top 37)) := ⟨rfl, rfl, rfl, by decide +kernel, rfl, by decide +kernel, by decide +kernel⟩
theorem ok_counter_row {f : Addr} {fd : FuncData} (F : Fun K "counter_row" "counter_row" (top 37) f fd) (F_need_minutes : FnF P w K mg base 4 "need_minutes" f_need_minutes) (F_need_lengths : FnF P w K mg base 3 "need_lengths" f_need_lengths) (F_need_desks : FnF P w K mg base 3 "need_desks" f_need_desks) (F_need_hours : FnF P w K mg base 1 "need_hours" f_need_hours) (F_counter_begin : FnF P w K mg base 6 "counter_begin" f_counter_begin) (F_later_by : FnF P w K mg base 5 "later_by" f_later_by) (z_len : mg "len" = none) (z_zip : mg "zip" = none) :
    FnOk P w K mg base (L2.CX P w) 7 f fd ["arrivals", "lengths", "desks", "hours"] (spF K 4 none (semB g_counter_row 11 none b_counter_row)) :=
  have S := sc_counter_row
  fn_body F S (by decide) fun cdv A outer s H E hr =>
    (ss_cons (st_expr (e_call F_need_minutes rfl (hr.mono (by decide)) (takes_of rfl rfl rfl rfl) rfl (aa_cons xs (aa_cons (e_v (i := 0) rfl (by first | exact .inl rfl | exact .inr (.inl rfl) | exact .inr (.inr rfl)) (by decide) (by decide)) aa_nil rfl) rfl) rfl) rfl) (ss_cons (st_expr (e_call F_need_lengths rfl (hr.mono (by decide)) (takes_of rfl rfl rfl rfl) rfl (aa_cons (e_v (i := 1) rfl (by first | exact .inl rfl | exact .inr (.inl rfl) | exact .inr (.inr rfl)) (by decide) (by decide)) (aa_cons (b_len z_len rfl (e_v (i := 0) rfl (by first | exact .inl rfl | exact .inr (.inl rfl) | exact .inr (.inr rfl)) (by decide) (by decide)) rfl) aa_nil rfl) rfl) rfl) rfl) (ss_cons (st_expr (e_call F_need_desks rfl (hr.mono (by decide)) (takes_of rfl rfl rfl rfl) rfl (aa_cons (e_v (i := 2) rfl (by first | exact .inl rfl | exact .inr (.inl rfl) | exact .inr (.inr rfl)) (by decide) (by decide)) aa_nil rfl) rfl) rfl) (ss_cons (st_expr (e_call F_need_hours rfl (hr.mono (by decide)) (takes_of rfl rfl rfl rfl) rfl (aa_cons (e_v (i := 3) rfl (by first | exact .inl rfl | exact .inr (.inl rfl) | exact .inr (.inr rfl)) (by decide) (by decide)) aa_nil rfl) rfl) rfl) (ss_cons (st_new (ps_set (i := 4) S.nd rfl (by first | exact .inl rfl | exact .inr rfl) (l_lst as_nil) rfl (by first | exact .inl rfl | exact .inr rfl))) (ss_cons (st_for (ps_for (passes_of rfl) rfl (i_zip rfl z_zip (e_v (i := 0) rfl (by first | exact .inl rfl | exact .inr (.inl rfl) | exact .inr (.inr rfl)) (by decide) (by decide)) (e_v (i := 1) rfl (by first | exact .inl rfl | exact .inr (.inl rfl) | exact .inr (.inr rfl)) (by decide) (by decide)) rfl rfl) (pg_tl rfl (pgs_cons (pg_name (i := 5) S.nd rfl (by first | exact .inl rfl | exact .inr rfl) (by first | exact .inl rfl | exact .inr rfl)) (pgs_cons (pg_name (i := 6) S.nd rfl (by first | exact .inl rfl | exact .inr rfl) (by first | exact .inl rfl | exact .inr rfl)) pgs_nil))) (ss_cons (st_asg (ps_set (i := 7) S.nd rfl (by first | exact .inl rfl | exact .inr rfl) (e_ite (t_truth (e_v (i := 4) rfl (by first | exact .inl rfl | exact .inr (.inl rfl) | exact .inr (.inr rfl)) (by decide) (by decide)) (fun _ => rfl)) (e_ix (e_ix (e_v (i := 4) rfl (by first | exact .inl rfl | exact .inr (.inl rfl) | exact .inr (.inr rfl)) (by decide) (by decide)) (e_neg xi) (fun _ _ => rfl)) xi (fun _ _ => rfl)) xi) rfl (by first | exact .inl rfl | exact .inr rfl))) (ss_cons (st_asg (ps_set (i := 8) S.nd rfl (by first | exact .inl rfl | exact .inr rfl) (e_call F_counter_begin rfl (hr.mono (by decide)) (takes_of rfl rfl rfl rfl) rfl (aa_cons (e_v (i := 5) rfl (by first | exact .inl rfl | exact .inr (.inl rfl) | exact .inr (.inr rfl)) (by decide) (by decide)) (aa_cons (e_v (i := 7) rfl (by first | exact .inl rfl | exact .inr (.inl rfl) | exact .inr (.inr rfl)) (by decide) (by decide)) (aa_cons (e_lcf (own := [("_", 9), ("end", 10)]) rfl S.nd (i := 4) rfl (by first | exact .inl rfl | exact .inr (.inl rfl) | exact .inr (.inr rfl)) (by decide) (by decide) (blkOk_by (N := ["arrivals", "lengths", "desks", "hours", "row", "arrival", "n", "begin_ahead", "begin", "_", "end"]) (sc := defScope (top 37)) (by decide +kernel)) (fun _ _ _ _ _ => (pg_tl rfl (pgs_cons (pg_name (i := 9) S.nd rfl (by first | exact .inl rfl | exact .inr rfl) (by first | exact .inl rfl | exact .inr rfl)) (pgs_cons (pg_name (i := 10) S.nd rfl (by first | exact .inl rfl | exact .inr rfl) (by first | exact .inl rfl | exact .inr rfl)) pgs_nil)))) (fun _ _ _ _ _ => pts_nil) (fun _ _ _ _ _ => (e_v (i := 10) rfl (by first | exact .inl rfl | exact .inr (.inl rfl) | exact .inr (.inr rfl)) (by decide) (by decide)))) (aa_cons (e_v (i := 2) rfl (by first | exact .inl rfl | exact .inr (.inl rfl) | exact .inr (.inr rfl)) (by decide) (by decide)) (aa_cons (e_v (i := 3) rfl (by first | exact .inl rfl | exact .inr (.inl rfl) | exact .inr (.inr rfl)) (by decide) (by decide)) (aa_cons (e_v (i := 6) rfl (by first | exact .inl rfl | exact .inr (.inl rfl) | exact .inr (.inr rfl)) (by decide) (by decide)) aa_nil rfl) rfl) rfl) rfl) rfl) rfl) rfl) rfl (by first | exact .inl rfl | exact .inr rfl))) (ss_cons (st_expr (e_app (i := 4) rfl (by first | exact .inl rfl | exact .inr (.inl rfl) | exact .inr (.inr rfl)) (by decide) (by decide) (e_tup (as_cons (e_v (i := 8) rfl (by first | exact .inl rfl | exact .inr (.inl rfl) | exact .inr (.inr rfl)) (by decide) (by decide)) (as_cons (e_call F_later_by rfl (hr.mono (by decide)) (takes_of rfl rfl rfl rfl) rfl (aa_cons (e_v (i := 8) rfl (by first | exact .inl rfl | exact .inr (.inl rfl) | exact .inr (.inr rfl)) (by decide) (by decide)) (aa_cons (e_v (i := 6) rfl (by first | exact .inl rfl | exact .inr (.inl rfl) | exact .inr (.inr rfl)) (by decide) (by decide)) aa_nil rfl) rfl) rfl) as_nil rfl) rfl)) rfl (by rfl) rfl) rfl) ss_nil))) (fun _ => rfl))) (ss_cons (st_ret (e_v (i := 4) rfl (by first | exact .inl rfl | exact .inr (.inl rfl) | exact .inr (.inr rfl)) (by decide) (by decide))) ss_nil)))))))
def b__law_pool : List ST := [.asg (.name 2) (.c (.int 0)), .if_ (.cmp .lt (.v 1) (.blt .len [.v 0])) [.asg (.name 2) (.ix (.v 0) (.v 1))] [], .asg (.name 3) (.blt .max2 [.blt .int [.v 2], .blt .int [.bin .sub (.neg (.c (.int 1))) (.v 2)]]), .asg (.name 4) (.bin .mod (.blt .int [.bin .mul (.bin .add (.bin .add (.bin .add (.bin .mod (.blt .int [.v 3]) (.c (.int 2147483629))) (.bin .mul (.bin .mul (.c (.int 7919)) (.v 1)) (.v 1))) (.bin .mul (.c (.int 31)) (.v 1))) (.c (.int 17))) (.c (.int 48271))]) (.c (.int 2147483647))), .retl (.lst [.bin .mul (.v 3) (.blt .int [.cmp .ge (.v 3) (.bin .pow (.c (.int 10)) (.c (.int 18)))]), .v 4])]
def g__law_pool : Ctx := ⟨[], [], [], ["Hours"], []⟩
def f__law_pool : Fn := ⟨2, none, semBF g__law_pool 5 b__law_pool⟩
theorem sc__law_pool : FnScope ["_law_script", "_law_k", "_law_cell", "_law_big", "_law_mixed"] ["_law_script", "_law_k"] (defScope (top 39)) := ⟨rfl, rfl, rfl, by decide +kernel, rfl, by decide +kernel, by decide +kernel⟩
theorem ok__law_pool {f : Addr} {fd : FuncData} (F : Fun K "_law_pool" "_law_pool" (top 39) f fd) (z_len : mg "len" = none) (z_max : mg "max" = none) (z_int : mg "int" = none) :
    FnOk P w K mg base (L2.CX P w) 1 f fd ["_law_script", "_law_k"] (spFr K 2 (semBF g__law_pool 5 b__law_pool)) :=
  have S := sc__law_pool
  fn_bodyF F S (by decide) fun cdv A outer s H E hr =>
    (ss_cons (st_asg (ps_set (i := 2) S.nd rfl (by first | exact .inl rfl | exact .inr rfl) xi rfl (by first | exact .inl rfl | exact .inr rfl))) (ss_cons (st_if (y_lt (e_v (i := 1) rfl (by first | exact .inl rfl | exact .inr (.inl rfl) | exact .inr (.inr rfl)) (by decide) (by decide)) (b_len z_len rfl (e_v (i := 0) rfl (by first | exact .inl rfl | exact .inr (.inl rfl) | exact .inr (.inr rfl)) (by decide) (by decide)) rfl)) (ss_cons (st_asg (ps_set (i := 2) S.nd rfl (by first | exact .inl rfl | exact .inr rfl) (e_ix (e_v (i := 0) rfl (by first | exact .inl rfl | exact .inr (.inl rfl) | exact .inr (.inr rfl)) (by decide) (by decide)) (e_v (i := 1) rfl (by first | exact .inl rfl | exact .inr (.inl rfl) | exact .inr (.inr rfl)) (by decide) (by decide)) (fun _ _ => rfl)) rfl (by first | exact .inl rfl | exact .inr rfl))) ss_nil) ss_nil) (ss_cons (st_asg (ps_set (i := 3) S.nd rfl (by first | exact .inl rfl | exact .inr rfl) (b_max rfl z_max rfl (b_int z_int rfl (e_v (i := 2) rfl (by first | exact .inl rfl | exact .inr (.inl rfl) | exact .inr (.inr rfl)) (by decide) (by decide)) rfl) (b_int z_int rfl (x_sub (e_neg xi) (e_v (i := 2) rfl (by first | exact .inl rfl | exact .inr (.inl rfl) | exact .inr (.inr rfl)) (by decide) (by decide))) rfl) rfl rfl) rfl (by first | exact .inl rfl | exact .inr rfl))) (ss_cons (st_asg (ps_set (i := 4) S.nd rfl (by first | exact .inl rfl | exact .inr rfl) (x_mod (b_int z_int rfl (x_mul (x_add (x_add (x_add (x_mod (b_int z_int rfl (e_v (i := 3) rfl (by first | exact .inl rfl | exact .inr (.inl rfl) | exact .inr (.inr rfl)) (by decide) (by decide)) rfl) xi) (x_mul (x_mul xi (e_v (i := 1) rfl (by first | exact .inl rfl | exact .inr (.inl rfl) | exact .inr (.inr rfl)) (by decide) (by decide))) (e_v (i := 1) rfl (by first | exact .inl rfl | exact .inr (.inl rfl) | exact .inr (.inr rfl)) (by decide) (by decide)))) (x_mul xi (e_v (i := 1) rfl (by first | exact .inl rfl | exact .inr (.inl rfl) | exact .inr (.inr rfl)) (by decide) (by decide)))) xi) xi) rfl) xi) rfl (by first | exact .inl rfl | exact .inr rfl))) (ss_cons (st_retl (l_lst (as_cons (x_mul (e_v (i := 3) rfl (by first | exact .inl rfl | exact .inr (.inl rfl) | exact .inr (.inr rfl)) (by decide) (by decide)) (b_int z_int rfl (x_ge (e_v (i := 3) rfl (by first | exact .inl rfl | exact .inr (.inl rfl) | exact .inr (.inr rfl)) (by decide) (by decide)) (x_pow xi xi)) rfl)) (as_cons (e_v (i := 4) rfl (by first | exact .inl rfl | exact .inr (.inl rfl) | exact .inr (.inr rfl)) (by decide) (by decide)) as_nil rfl) rfl))) ss_nil)))))
def b__law_take : List ST := [.if_ (.cmp .gt (.ix (.v 0) (.c (.int 0))) (.c (.int 0))) [.asg (.name 2) (.bin .mod (.blt .int [.ix (.v 0) (.c (.int 0))]) (.v 1)), .six 0 (.c (.int 0)) (.bin .fdiv (.ix (.v 0) (.c (.int 0))) (.v 1)), .ret (.v 2)] [], .six 0 (.c (.int 1)) (.bin .mod (.blt .int [.bin .add (.bin .mul (.ix (.v 0) (.c (.int 1))) (.c (.int 39373))) (.c (.int 7))]) (.c (.int 2147483647))), .ret (.bin .mod (.blt .int [.bin .fdiv (.bin .mod (.blt .int [.bin .mul (.ix (.v 0) (.c (.int 1))) (.ix (.v 0) (.c (.int 1)))]) (.c (.int 2147483629))) (.c (.int 32))]) (.v 1))]
def g__law_take : Ctx := ⟨[], [], [], ["Hours"], []⟩
def f__law_take : Fn := ⟨2, some 0, semB g__law_take 3 (some 0) b__law_take⟩
theorem sc__law_take : FnScope ["_law_source", "_law_top", "_law_digit"] ["_law_source", "_law_top"] (defScope (top 40)) := ⟨rfl, rfl, rfl, by decide +kernel, rfl, by decide +kernel, by decide +kernel⟩
theorem ok__law_take {f : Addr} {fd : FuncData} (F : Fun K "_law_take" "_law_take" (top 40) f fd) (z_int : mg "int" = none) :
    FnOk P w K mg base (L2.CX P w) 1 f fd ["_law_source", "_law_top"] (spF K 2 (some 0) (semB g__law_take 3 (some 0) b__law_take)) :=
  have S := sc__law_take
  fn_body F S (by decide) fun cdv A outer s H E hr =>
    (ss_cons (st_if (y_gt (e_ix (e_v (i := 0) rfl (by first | exact .inl rfl | exact .inr (.inl rfl) | exact .inr (.inr rfl)) (by decide) (by decide)) xi (fun _ _ => rfl)) xi) (ss_cons (st_asg (ps_set (i := 2) S.nd rfl (by first | exact .inl rfl | exact .inr rfl) (x_mod (b_int z_int rfl (e_ix (e_v (i := 0) rfl (by first | exact .inl rfl | exact .inr (.inl rfl) | exact .inr (.inr rfl)) (by decide) (by decide)) xi (fun _ _ => rfl)) rfl) (e_v (i := 1) rfl (by first | exact .inl rfl | exact .inr (.inl rfl) | exact .inr (.inr rfl)) (by decide) (by decide))) rfl (by first | exact .inl rfl | exact .inr rfl))) (ss_cons (st_six (ps_asg (x_fdiv (e_ix (e_v (i := 0) rfl (by first | exact .inl rfl | exact .inr (.inl rfl) | exact .inr (.inr rfl)) (by decide) (by decide)) xi (fun _ _ => rfl)) (e_v (i := 1) rfl (by first | exact .inl rfl | exact .inr (.inl rfl) | exact .inr (.inr rfl)) (by decide) (by decide))) (pg_sub (pe_var (i := 0) rfl (by first | exact .inl rfl | exact .inr (.inl rfl) | exact .inr (.inr rfl))) xi set_list (fun _ => rfl)) rfl rfl rfl)) (ss_cons (st_ret (e_v (i := 2) rfl (by first | exact .inl rfl | exact .inr (.inl rfl) | exact .inr (.inr rfl)) (by decide) (by decide))) ss_nil))) ss_nil) (ss_cons (st_six (ps_asg (x_mod (b_int z_int rfl (x_add (x_mul (e_ix (e_v (i := 0) rfl (by first | exact .inl rfl | exact .inr (.inl rfl) | exact .inr (.inr rfl)) (by decide) (by decide)) xi (fun _ _ => rfl)) xi) xi) rfl) xi) (pg_sub (pe_var (i := 0) rfl (by first | exact .inl rfl | exact .inr (.inl rfl) | exact .inr (.inr rfl))) xi set_list (fun _ => rfl)) rfl rfl rfl)) (ss_cons (st_ret (x_mod (b_int z_int rfl (x_fdiv (x_mod (b_int z_int rfl (x_mul (e_ix (e_v (i := 0) rfl (by first | exact .inl rfl | exact .inr (.inl rfl) | exact .inr (.inr rfl)) (by decide) (by decide)) xi (fun _ _ => rfl)) (e_ix (e_v (i := 0) rfl (by first | exact .inl rfl | exact .inr (.inl rfl) | exact .inr (.inr rfl)) (by decide) (by decide)) xi (fun _ _ => rfl))) rfl) xi) xi) rfl) (e_v (i := 1) rfl (by first | exact .inl rfl | exact .inr (.inl rfl) | exact .inr (.inr rfl)) (by decide) (by decide)))) ss_nil)))
def b__law_one : List ST := [.ret (.ix (.v 1) (.call 0 [.v 0, .blt .len [.v 1]]))]
def g__law_one : Ctx := ⟨[f__law_take], [], [], ["Hours"], []⟩
def f__law_one : Fn := ⟨2, some 0, semB g__law_one 2 (some 0) b__law_one⟩
theorem sc__law_one : FnScope ["_law_source", "_law_things"] ["_law_source", "_law_things"] (defScope (top 41)) := ⟨rfl, rfl, rfl, by decide +kernel, rfl, by decide +kernel, by decide +kernel⟩
theorem ok__law_one {f : Addr} {fd : FuncData} (F : Fun K "_law_one" "_law_one" (top 41) f fd) (F__law_take : FnF P w K mg base 1 "_law_take" f__law_take) (z_len : mg "len" = none) :
    FnOk P w K mg base (L2.CX P w) 2 f fd ["_law_source", "_law_things"] (spF K 2 (some 0) (semB g__law_one 2 (some 0) b__law_one)) :=
  have S := sc__law_one
  fn_body F S (by decide) fun cdv A outer s H E hr =>
    (ss_cons (st_ret (e_ix (e_v (i := 1) rfl (by first | exact .inl rfl | exact .inr (.inl rfl) | exact .inr (.inr rfl)) (by decide) (by decide)) (e_call F__law_take rfl (hr.mono (by decide)) (takes_of rfl rfl rfl rfl) rfl (aa_cons (e_v (i := 0) rfl (by first | exact .inl rfl | exact .inr (.inl rfl) | exact .inr (.inr rfl)) (by decide) (by decide)) (aa_cons (b_len z_len rfl (e_v (i := 1) rfl (by first | exact .inl rfl | exact .inr (.inl rfl) | exact .inr (.inr rfl)) (by decide) (by decide)) rfl) aa_nil rfl) rfl) rfl) (fun _ _ => rfl))) ss_nil)
def b__law_rounds : List ST := [.ret (.lrng (.blt .max2 [.c (.int 1), .blt .min2 [.blt .len [.v 0], .c (.int 4)]]))]
def g__law_rounds : Ctx := ⟨[], [], [], ["Hours"], []⟩
def f__law_rounds : Fn := ⟨1, none, semB g__law_rounds 1 none b__law_rounds⟩
theorem sc__law_rounds : FnScope ["_law_script"] ["_law_script"] (defScope (top 42)) := ⟨rfl, rfl, rfl, by decide +kernel, rfl, by decide +kernel, by decide +kernel⟩
theorem ok__law_rounds {f : Addr} {fd : FuncData} (F : Fun K "_law_rounds" "_law_rounds" (top 42) f fd) (z_list : mg "list" = none) (z_range : mg "range" = none) (z_max : mg "max" = none) (z_min : mg "min" = none) (z_len : mg "len" = none) :
    FnOk P w K mg base (L2.CX P w) 1 f fd ["_law_script"] (spF K 1 none (semB g__law_rounds 1 none b__law_rounds)) :=
  have S := sc__law_rounds
  fn_body F S (by decide) fun cdv A outer s H E hr =>
    (ss_cons (st_ret (e_lrng rfl rfl z_list rfl z_range (b_max rfl z_max rfl xi (b_min rfl z_min rfl (b_len z_len rfl (e_v (i := 0) rfl (by first | exact .inl rfl | exact .inr (.inl rfl) | exact .inr (.inr rfl)) (by decide) (by decide)) rfl) xi rfl rfl) rfl rfl) rfl)) ss_nil)
def cs__law_heard : List HC := [⟨"BadPart", "part", "part", true⟩, ⟨"BadNumber", "number", "number", true⟩, ⟨"BadIndex", "index", "index", true⟩]
theorem sc__law_heard : FnScope ["_law_call", "e"] ["_law_call"] (defScope (top 43)) := ⟨rfl, rfl, rfl, by decide +kernel, rfl, by decide +kernel, by decide +kernel⟩
theorem hG__law_heard {X : Cx} {q : Str} {g : Addr} {cdv : Value} {I_BadPart I_BadNumber I_BadIndex : Addr} (hgd : X.A.guards = some []) (hu : X.A.units + 100 < cLine) (z_repr : X.mg "repr" = none) (T_BadPart : PySem.ErrBadPart.LowTxt X.K X.mg (clsAt X.K "BadPart") I_BadPart) (T_BadNumber : PySem.ErrBadNumber.LowTxt X.K X.mg (clsAt X.K "BadNumber") I_BadNumber) (T_BadIndex : PySem.ErrBadIndex.LowTxt X.K X.mg (clsAt X.K "BadIndex") I_BadIndex) :
    LamX.GivesTo X ["_law_call", "e"] "_law_heard" (defScope (top 43)) g cdv (defBody (top 43)) "_law_call" q (THeard X.K cs__law_heard) :=
  heard_gives (i := 1) (by decide) rfl rfl (fun _ => rfl) fun s H => (.more ⟨rfl, by decide, .inl T_BadPart.gC⟩ (fun ea eo cls d pn hz hf => cl_rep (k := 0) (Y := (cxOf C8.CX0 X.prog X.w X.K X.mg X.base ["_law_call", "e"] "_law_heard" (defScope (top 43)) g cdv X.A X.stack s H C8.E0).nox) (c := ⟨"BadPart", "part", "part", true⟩) (n := "e") (i := 1) rfl (pe_byLow_BadPart (X := (cxOf C8.CX0 X.prog X.w X.K X.mg X.base ["_law_call", "e"] "_law_heard" (defScope (top 43)) g cdv X.A X.stack s H C8.E0).nox) T_BadPart hz hf (pe_var (i := 1) rfl (by first | exact .inl rfl | exact .inr (.inl rfl) | exact .inr (.inr rfl)))) (by show 1 < 2; decide) hgd (by show X.A.units + 3 + 64 < _; omega) rfl z_repr) (.more ⟨rfl, by decide, .inl T_BadNumber.gC⟩ (fun ea eo cls d pn hz hf => cl_rep (k := 0) (Y := (cxOf C8.CX0 X.prog X.w X.K X.mg X.base ["_law_call", "e"] "_law_heard" (defScope (top 43)) g cdv X.A X.stack s H C8.E0).nox) (c := ⟨"BadNumber", "number", "number", true⟩) (n := "e") (i := 1) rfl (pe_byLow_BadNumber (X := (cxOf C8.CX0 X.prog X.w X.K X.mg X.base ["_law_call", "e"] "_law_heard" (defScope (top 43)) g cdv X.A X.stack s H C8.E0).nox) T_BadNumber hz hf (pe_var (i := 1) rfl (by first | exact .inl rfl | exact .inr (.inl rfl) | exact .inr (.inr rfl)))) (by show 1 < 2; decide) hgd (by show X.A.units + 3 + 64 < _; omega) rfl z_repr) (.more ⟨rfl, by decide, .inl T_BadIndex.gC⟩ (fun ea eo cls d pn hz hf => cl_rep (k := 0) (Y := (cxOf C8.CX0 X.prog X.w X.K X.mg X.base ["_law_call", "e"] "_law_heard" (defScope (top 43)) g cdv X.A X.stack s H C8.E0).nox) (c := ⟨"BadIndex", "index", "index", true⟩) (n := "e") (i := 1) rfl (pe_byLow_BadIndex (X := (cxOf C8.CX0 X.prog X.w X.K X.mg X.base ["_law_call", "e"] "_law_heard" (defScope (top 43)) g cdv X.A X.stack s H C8.E0).nox) T_BadIndex hz hf (pe_var (i := 1) rfl (by first | exact .inl rfl | exact .inr (.inl rfl) | exact .inr (.inr rfl)))) (by show 1 < 2; decide) hgd (by show X.A.units + 3 + 64 < _; omega) rfl z_repr) .none_)))
def b__law_spans : List ST := [.if_ (.cmp .eq (.call 0 [.v 0, .c (.int 6)]) (.c (.int 0))) [.ret (.c .non)] [], .parn 2 (.c (.int 0)) 3 (.lst []), .for_ (.name 1) (.rng1 (.call 1 [.v 0, .lst [.c (.int 0), .c (.int 1), .c (.int 1), .c (.int 2), .c (.int 2), .c (.int 3), .c (.int 4)]])) [.asg (.name 4) (.bin .add (.v 2) (.call 0 [.v 0, .c (.int 4)])), .asg (.name 5) (.bin .add (.v 4) (.call 1 [.v 0, .lst [.c (.int 0), .c (.int 1), .c (.int 2), .c (.int 4), .c (.int 6), .c (.int 9)]])), .expr (.app 3 (.tup [.v 4, .v 5])), .asg (.name 2) (.bin .add (.bin .add (.v 5) (.c (.int 1))) (.call 0 [.v 0, .c (.int 3)]))], .ret (.v 3)]
def g__law_spans : Ctx := ⟨[f__law_take, f__law_one], [], [], ["Hours"], []⟩
def f__law_spans : Fn := ⟨1, some 0, semB g__law_spans 6 (some 0) b__law_spans⟩
theorem sc__law_spans : FnScope ["_law_source", "_law_turn", "_law_at", "_law_found", "_law_first", "_law_last"] ["_law_source"] (defScope (top 44)) := ⟨rfl, rfl, rfl, by decide +kernel, rfl, by decide +kernel, by decide +kernel⟩
theorem ok__law_spans {f : Addr} {fd : FuncData} (F : Fun K "_law_spans" "_law_spans" (top 44) f fd) (F__law_take : FnF P w K mg base 1 "_law_take" f__law_take) (F__law_one : FnF P w K mg base 2 "_law_one" f__law_one) (z_range : mg "range" = none) :
    FnOk P w K mg base (L2.CX P w) 3 f fd ["_law_source"] (spF K 1 (some 0) (semB g__law_spans 6 (some 0) b__law_spans)) :=
  have S := sc__law_spans
  fn_body F S (by decide) fun cdv A outer s H E hr =>
    (ss_cons (st_if (y_eq (hu64 hr) (e_call F__law_take rfl (hr.mono (by decide)) (takes_of rfl rfl rfl rfl) rfl (aa_cons (e_v (i := 0) rfl (by first | exact .inl rfl | exact .inr (.inl rfl) | exact .inr (.inr rfl)) (by decide) (by decide)) (aa_cons xi aa_nil rfl) rfl) rfl) xi) (ss_cons (st_ret xn) ss_nil) ss_nil) (ss_cons (st_parn (ps_par (i := 2) (j := 3) rfl S.nd rfl rfl (by decide) rfl rfl (pa_cons xi (pa_cons (l_lst as_nil) pa_nil (star_cons rfl)) (star_cons rfl)) rfl rfl)) (ss_cons (st_for (ps_for (passes_of rfl) rfl (i_rng1 rfl z_range (e_call F__law_one rfl (hr.mono (by decide)) (takes_of rfl rfl rfl rfl) rfl (aa_cons (e_v (i := 0) rfl (by first | exact .inl rfl | exact .inr (.inl rfl) | exact .inr (.inr rfl)) (by decide) (by decide)) (aa_cons (e_lst (as_cons xi (as_cons xi (as_cons xi (as_cons xi (as_cons xi (as_cons xi (as_cons xi as_nil rfl) rfl) rfl) rfl) rfl) rfl) rfl)) aa_nil rfl) rfl) rfl) rfl) (pg_name (i := 1) S.nd rfl (by first | exact .inl rfl | exact .inr rfl) (by first | exact .inl rfl | exact .inr rfl)) (ss_cons (st_asg (ps_set (i := 4) S.nd rfl (by first | exact .inl rfl | exact .inr rfl) (x_add (e_v (i := 2) rfl (by first | exact .inl rfl | exact .inr (.inl rfl) | exact .inr (.inr rfl)) (by decide) (by decide)) (e_call F__law_take rfl (hr.mono (by decide)) (takes_of rfl rfl rfl rfl) rfl (aa_cons (e_v (i := 0) rfl (by first | exact .inl rfl | exact .inr (.inl rfl) | exact .inr (.inr rfl)) (by decide) (by decide)) (aa_cons xi aa_nil rfl) rfl) rfl)) rfl (by first | exact .inl rfl | exact .inr rfl))) (ss_cons (st_asg (ps_set (i := 5) S.nd rfl (by first | exact .inl rfl | exact .inr rfl) (x_add (e_v (i := 4) rfl (by first | exact .inl rfl | exact .inr (.inl rfl) | exact .inr (.inr rfl)) (by decide) (by decide)) (e_call F__law_one rfl (hr.mono (by decide)) (takes_of rfl rfl rfl rfl) rfl (aa_cons (e_v (i := 0) rfl (by first | exact .inl rfl | exact .inr (.inl rfl) | exact .inr (.inr rfl)) (by decide) (by decide)) (aa_cons (e_lst (as_cons xi (as_cons xi (as_cons xi (as_cons xi (as_cons xi (as_cons xi as_nil rfl) rfl) rfl) rfl) rfl) rfl)) aa_nil rfl) rfl) rfl)) rfl (by first | exact .inl rfl | exact .inr rfl))) (ss_cons (st_expr (e_app (i := 3) rfl (by first | exact .inl rfl | exact .inr (.inl rfl) | exact .inr (.inr rfl)) (by decide) (by decide) (e_tup (as_cons (e_v (i := 4) rfl (by first | exact .inl rfl | exact .inr (.inl rfl) | exact .inr (.inr rfl)) (by decide) (by decide)) (as_cons (e_v (i := 5) rfl (by first | exact .inl rfl | exact .inr (.inl rfl) | exact .inr (.inr rfl)) (by decide) (by decide)) as_nil rfl) rfl)) rfl (by rfl) rfl) rfl) (ss_cons (st_asg (ps_set (i := 2) S.nd rfl (by first | exact .inl rfl | exact .inr rfl) (x_add (x_add (e_v (i := 5) rfl (by first | exact .inl rfl | exact .inr (.inl rfl) | exact .inr (.inr rfl)) (by decide) (by decide)) xi) (e_call F__law_take rfl (hr.mono (by decide)) (takes_of rfl rfl rfl rfl) rfl (aa_cons (e_v (i := 0) rfl (by first | exact .inl rfl | exact .inr (.inl rfl) | exact .inr (.inr rfl)) (by decide) (by decide)) (aa_cons xi aa_nil rfl) rfl) rfl)) rfl (by first | exact .inl rfl | exact .inr rfl))) ss_nil)))) (fun _ => rfl))) (ss_cons (st_ret (e_v (i := 3) rfl (by first | exact .inl rfl | exact .inr (.inl rfl) | exact .inr (.inr rfl)) (by decide) (by decide))) ss_nil))))
def b__law_gate : List ST := [.if_ (.or_ (.cmp .is_ (.v 2) (.c .non)) (.cmp .is_ (.v 0) (.c .non))) [.ret (.v 2)] [], .for_ (.tup [3, 4]) (.seq (.v 0)) [.asg (.name 5) (.lc (.name 6) (.rng2 (.v 3) (.bin .add (.v 4) (.c (.int 1)))) (some (.and_ (.cmp .ge (.v 6) (.v 2)) (.cmp .le (.bin .add (.v 6) (.v 1)) (.v 4)))) (.v 6) [6]), .if_ (.cmp .ne (.v 5) (.lst [])) [.ret (.ix (.v 5) (.c (.int 0)))] []], .ret (.c .non)]
def g__law_gate : Ctx := ⟨[], [], [], ["Hours"], []⟩
def f__law_gate : Fn := ⟨3, none, semB g__law_gate 7 none b__law_gate⟩
theorem sc__law_gate : FnScope ["_law_spans_here", "_law_n", "_law_t", "_law_first", "_law_last", "_law_some", "_law_minute"] ["_law_spans_here", "_law_n", "_law_t"] (defScope (top 45)) := ⟨rfl, rfl, rfl, by decide +kernel, rfl, by decide +kernel, by decide +kernel⟩
theorem ok__law_gate {f : Addr} {fd : FuncData} (F : Fun K "_law_gate" "_law_gate" (top 45) f fd) (z_range : mg "range" = none) :
    FnOk P w K mg base (L2.CX P w) 1 f fd ["_law_spans_here", "_law_n", "_law_t"] (spF K 3 none (semB g__law_gate 7 none b__law_gate)) :=
  have S := sc__law_gate
  fn_body F S (by decide) fun cdv A outer s H E hr =>
    (ss_cons (st_if (PW.pt (w_or (y_is (e_v (i := 2) rfl (by first | exact .inl rfl | exact .inr (.inl rfl) | exact .inr (.inr rfl)) (by decide) (by decide)) xn) (w_or1 (y_is (e_v (i := 0) rfl (by first | exact .inl rfl | exact .inr (.inl rfl) | exact .inr (.inr rfl)) (by decide) (by decide)) xn)))) (ss_cons (st_ret (e_v (i := 2) rfl (by first | exact .inl rfl | exact .inr (.inl rfl) | exact .inr (.inr rfl)) (by decide) (by decide))) ss_nil) ss_nil) (ss_cons (st_for (ps_for (passes_of rfl) rfl (i_seq (e_v (i := 0) rfl (by first | exact .inl rfl | exact .inr (.inl rfl) | exact .inr (.inr rfl)) (by decide) (by decide))) (pg_tl rfl (pgs_cons (pg_name (i := 3) S.nd rfl (by first | exact .inl rfl | exact .inr rfl) (by first | exact .inl rfl | exact .inr rfl)) (pgs_cons (pg_name (i := 4) S.nd rfl (by first | exact .inl rfl | exact .inr rfl) (by first | exact .inl rfl | exact .inr rfl)) pgs_nil))) (ss_cons (st_asg (st_lc (ps_setLc (i := 5) (own := [("_law_minute", 6)]) rfl S.nd rfl rfl (sw_true rfl rfl rfl (by decide +kernel)) (i_rng2 rfl z_range (e_v (i := 3) rfl (by first | exact .inl rfl | exact .inr (.inl rfl) | exact .inr (.inr rfl)) (by decide) (by decide)) (x_add (e_v (i := 4) rfl (by first | exact .inl rfl | exact .inr (.inl rfl) | exact .inr (.inr rfl)) (by decide) (by decide)) xi) rfl rfl) (blkOk_by (N := ["_law_spans_here", "_law_n", "_law_t", "_law_first", "_law_last", "_law_some", "_law_minute"]) (sc := defScope (top 45)) (by decide +kernel)) (fun _ _ _ _ _ => (pg_name (i := 6) S.nd rfl (by first | exact .inl rfl | exact .inr rfl) (by first | exact .inl rfl | exact .inr rfl))) (fun _ _ _ _ _ => (pts_one (PW.pt (w_and (y_ge (e_v (i := 6) rfl (by first | exact .inl rfl | exact .inr (.inl rfl) | exact .inr (.inr rfl)) (by decide) (by decide)) (e_v (i := 2) rfl (by first | exact .inl rfl | exact .inr (.inl rfl) | exact .inr (.inr rfl)) (by decide) (by decide))) (w_and1 (y_le (x_add (e_v (i := 6) rfl (by first | exact .inl rfl | exact .inr (.inl rfl) | exact .inr (.inr rfl)) (by decide) (by decide)) (e_v (i := 1) rfl (by first | exact .inl rfl | exact .inr (.inl rfl) | exact .inr (.inr rfl)) (by decide) (by decide))) (e_v (i := 4) rfl (by first | exact .inl rfl | exact .inr (.inl rfl) | exact .inr (.inr rfl)) (by decide) (by decide)))))))) (fun _ _ _ _ _ => (e_v (i := 6) rfl (by first | exact .inl rfl | exact .inr (.inl rfl) | exact .inr (.inr rfl)) (by decide) (by decide))) (fun _ => rfl)))) (ss_cons (st_if (y_ne (hu64 hr) (e_v (i := 5) rfl (by first | exact .inl rfl | exact .inr (.inl rfl) | exact .inr (.inr rfl)) (by decide) (by decide)) (e_lst as_nil)) (ss_cons (st_ret (e_ix (e_v (i := 5) rfl (by first | exact .inl rfl | exact .inr (.inl rfl) | exact .inr (.inr rfl)) (by decide) (by decide)) xi (fun _ _ => rfl))) ss_nil) ss_nil) ss_nil)) (fun _ => rfl))) (ss_cons (st_ret xn) ss_nil)))
def b__law_rank : List ST := [.ret (.ite (.cmp .is_ (.v 0) (.c .non)) (.bin .pow (.c (.int 10)) (.c (.int 9))) (.blt .int [.v 0]))]
def g__law_rank : Ctx := ⟨[], [], [], ["Hours"], []⟩
def f__law_rank : Fn := ⟨1, none, semB g__law_rank 1 none b__law_rank⟩
theorem sc__law_rank : FnScope ["_law_moment_here"] ["_law_moment_here"] (defScope (top 46)) := ⟨rfl, rfl, rfl, by decide +kernel, rfl, by decide +kernel, by decide +kernel⟩
theorem ok__law_rank {f : Addr} {fd : FuncData} (F : Fun K "_law_rank" "_law_rank" (top 46) f fd) (z_int : mg "int" = none) :
    FnOk P w K mg base (L2.CX P w) 1 f fd ["_law_moment_here"] (spF K 1 none (semB g__law_rank 1 none b__law_rank)) :=
  have S := sc__law_rank
  fn_body F S (by decide) fun cdv A outer s H E hr =>
    (ss_cons (st_ret (e_ite (y_is (e_v (i := 0) rfl (by first | exact .inl rfl | exact .inr (.inl rfl) | exact .inr (.inr rfl)) (by decide) (by decide)) xn) (x_pow xi xi) (b_int z_int rfl (e_v (i := 0) rfl (by first | exact .inl rfl | exact .inr (.inl rfl) | exact .inr (.inr rfl)) (by decide) (by decide)) rfl))) ss_nil)
def b__law_moment : List ST := [.ret (.ite (.cmp .eq (.call 0 [.v 0, .c (.int 9)]) (.c (.int 0))) (.c .non) (.call 0 [.v 0, .v 1]))]
def g__law_moment : Ctx := ⟨[f__law_take], [], [], ["Hours"], []⟩
def f__law_moment : Fn := ⟨2, some 0, semB g__law_moment 2 (some 0) b__law_moment⟩
theorem sc__law_moment : FnScope ["_law_source", "_law_most"] ["_law_source", "_law_most"] (defScope (top 47)) := ⟨rfl, rfl, rfl, by decide +kernel, rfl, by decide +kernel, by decide +kernel⟩
theorem ok__law_moment {f : Addr} {fd : FuncData} (F : Fun K "_law_moment" "_law_moment" (top 47) f fd) (F__law_take : FnF P w K mg base 1 "_law_take" f__law_take) :
    FnOk P w K mg base (L2.CX P w) 2 f fd ["_law_source", "_law_most"] (spF K 2 (some 0) (semB g__law_moment 2 (some 0) b__law_moment)) :=
  have S := sc__law_moment
  fn_body F S (by decide) fun cdv A outer s H E hr =>
    (ss_cons (st_ret (e_ite (y_eq (hu64 hr) (e_call F__law_take rfl (hr.mono (by decide)) (takes_of rfl rfl rfl rfl) rfl (aa_cons (e_v (i := 0) rfl (by first | exact .inl rfl | exact .inr (.inl rfl) | exact .inr (.inr rfl)) (by decide) (by decide)) (aa_cons xi aa_nil rfl) rfl) rfl) xi) xn (e_call F__law_take rfl (hr.mono (by decide)) (takes_of rfl rfl rfl rfl) rfl (aa_cons (e_v (i := 0) rfl (by first | exact .inl rfl | exact .inr (.inl rfl) | exact .inr (.inr rfl)) (by decide) (by decide)) (aa_cons (e_v (i := 1) rfl (by first | exact .inl rfl | exact .inr (.inl rfl) | exact .inr (.inr rfl)) (by decide) (by decide)) aa_nil rfl) rfl) rfl))) ss_nil)
def b__law_sorted : List ST := [.asg (.name 1) (.blt .sorted [.lc (.name 2) (.seq (.v 0)) none (.blt .int [.call 0 [.v 2]]) [2]]), .ret (.lc (.name 2) (.seq (.v 1)) none (.ite (.cmp .eq (.v 2) (.bin .pow (.c (.int 10)) (.c (.int 9)))) (.c .non) (.v 2)) [2])]
def g__law_sorted : Ctx := ⟨[f__law_rank], [], [], ["Hours"], []⟩
def f__law_sorted : Fn := ⟨1, none, semB g__law_sorted 3 none b__law_sorted⟩
theorem cl__law_sorted_0 {a0 : IR} {env : Env} : ev g__law_sorted (.call 0 [a0]) env = (evs g__law_sorted [a0] env).bind fun ds e1 => runF e1 (f__law_rank.sem ds) := ev_call rfl rfl rfl
theorem sc__law_sorted : FnScope ["_law_some", "_law_told", "_law_one_here"] ["_law_some"] (defScope (top 48)) := ⟨rfl, rfl, rfl, by decide +kernel, rfl, by decide +kernel, by decide +kernel⟩
theorem ok__law_sorted {f : Addr} {fd : FuncData} (F : Fun K "_law_sorted" "_law_sorted" (top 48) f fd) (F__law_rank : FnF P w K mg base 1 "_law_rank" f__law_rank) (z_sorted : mg "sorted" = none) (z_int : mg "int" = none) :
    FnOk P w K mg base (L2.CX P w) 2 f fd ["_law_some"] (spF K 1 none (semB g__law_sorted 3 none b__law_sorted)) :=
  have S := sc__law_sorted
  fn_body F S (by decide) fun cdv A outer s H E hr =>
    (ss_cons (st_asg (ps_set (i := 1) S.nd rfl (by first | exact .inl rfl | exact .inr rfl) (b_sorted z_sorted rfl (e_lc (own := [("_law_one_here", 2)]) rfl S.nd (i_seq (e_v (i := 0) rfl (by first | exact .inl rfl | exact .inr (.inl rfl) | exact .inr (.inr rfl)) (by decide) (by decide))) (blkOk_by (N := ["_law_some", "_law_told", "_law_one_here"]) (sc := defScope (top 48)) (by decide +kernel)) (fun _ _ _ _ _ => (pg_name (i := 2) S.nd rfl (by first | exact .inl rfl | exact .inr rfl) (by first | exact .inl rfl | exact .inr rfl))) (fun _ _ _ _ _ => pts_nil) (fun _ _ _ _ _ => (b_int z_int rfl (e_call F__law_rank rfl (hr.mono (by decide)) takes0 rfl (aa_cons (e_v (i := 2) rfl (by first | exact .inl rfl | exact .inr (.inl rfl) | exact .inr (.inr rfl)) (by decide) (by decide)) aa_nil rfl) rfl) rfl)) (fun _ => rfl)) rfl) rfl (by first | exact .inl rfl | exact .inr rfl))) (ss_cons (st_ret (e_lc (own := [("_law_one_here", 2)]) rfl S.nd (i_seq (e_v (i := 1) rfl (by first | exact .inl rfl | exact .inr (.inl rfl) | exact .inr (.inr rfl)) (by decide) (by decide))) (blkOk_by (N := ["_law_some", "_law_told", "_law_one_here"]) (sc := defScope (top 48)) (by decide +kernel)) (fun _ _ _ _ _ => (pg_name (i := 2) S.nd rfl (by first | exact .inl rfl | exact .inr rfl) (by first | exact .inl rfl | exact .inr rfl))) (fun _ _ _ _ _ => pts_nil) (fun _ _ _ _ _ => (e_ite (y_eq (hu64 hr) (e_v (i := 2) rfl (by first | exact .inl rfl | exact .inr (.inl rfl) | exact .inr (.inr rfl)) (by decide) (by decide)) (x_pow xi xi)) xn (e_v (i := 2) rfl (by first | exact .inl rfl | exact .inr (.inl rfl) | exact .inr (.inr rfl)) (by decide) (by decide)))) (fun _ => rfl))) ss_nil))
def b__law_more : List ST := [.ret (.ite (.cmp .is_ (.v 0) (.c .non)) (.c .non) (.bin .add (.v 0) (.v 1)))]
def g__law_more : Ctx := ⟨[], [], [], ["Hours"], []⟩
def f__law_more : Fn := ⟨2, none, semB g__law_more 2 none b__law_more⟩
theorem sc__law_more : FnScope ["_law_moment_here", "_law_minutes"] ["_law_moment_here", "_law_minutes"] (defScope (top 49)) := ⟨rfl, rfl, rfl, by decide +kernel, rfl, by decide +kernel, by decide +kernel⟩
theorem ok__law_more {f : Addr} {fd : FuncData} (F : Fun K "_law_more" "_law_more" (top 49) f fd)  :
    FnOk P w K mg base (L2.CX P w) 1 f fd ["_law_moment_here", "_law_minutes"] (spF K 2 none (semB g__law_more 2 none b__law_more)) :=
  have S := sc__law_more
  fn_body F S (by decide) fun cdv A outer s H E hr =>
    (ss_cons (st_ret (e_ite (y_is (e_v (i := 0) rfl (by first | exact .inl rfl | exact .inr (.inl rfl) | exact .inr (.inr rfl)) (by decide) (by decide)) xn) xn (x_add (e_v (i := 0) rfl (by first | exact .inl rfl | exact .inr (.inl rfl) | exact .inr (.inr rfl)) (by decide) (by decide)) (e_v (i := 1) rfl (by first | exact .inl rfl | exact .inr (.inl rfl) | exact .inr (.inr rfl)) (by decide) (by decide))))) ss_nil)
def b__law_max : List ST := [.ret (.ix (.call 0 [.bin .add (.lst [.c (.int 0)]) (.blt .list [.v 0])]) (.neg (.c (.int 1))))]
def g__law_max : Ctx := ⟨[f__law_sorted], [], [], ["Hours"], []⟩
def f__law_max : Fn := ⟨1, none, semB g__law_max 1 none b__law_max⟩
theorem cl__law_max_0 {a0 : IR} {env : Env} : ev g__law_max (.call 0 [a0]) env = (evs g__law_max [a0] env).bind fun ds e1 => runF e1 (f__law_sorted.sem ds) := ev_call rfl rfl rfl
theorem sc__law_max : FnScope ["_law_some"] ["_law_some"] (defScope (top 50)) := ⟨rfl, rfl, rfl, by decide +kernel, rfl, by decide +kernel, by decide +kernel⟩
theorem ok__law_max {f : Addr} {fd : FuncData} (F : Fun K "_law_max" "_law_max" (top 50) f fd) (F__law_sorted : FnF P w K mg base 2 "_law_sorted" f__law_sorted) (z_list : mg "list" = none) :
    FnOk P w K mg base (L2.CX P w) 3 f fd ["_law_some"] (spF K 1 none (semB g__law_max 1 none b__law_max)) :=
  have S := sc__law_max
  fn_body F S (by decide) fun cdv A outer s H E hr =>
    (ss_cons (st_ret (e_ix (e_call F__law_sorted rfl (hr.mono (by decide)) (takes_of rfl rfl rfl rfl) rfl (aa_cons (x_add (e_lst (as_cons xi as_nil rfl)) (b_list z_list rfl (e_v (i := 0) rfl (by first | exact .inl rfl | exact .inr (.inl rfl) | exact .inr (.inr rfl)) (by decide) (by decide)) rfl)) aa_nil rfl) rfl) (e_neg xi) (fun _ _ => rfl))) ss_nil)
def b__law_min : List ST := [.ret (.ix (.call 0 [.bin .add (.blt .list [.v 0]) (.lst [.c .non])]) (.c (.int 0)))]
def g__law_min : Ctx := ⟨[f__law_sorted], [], [], ["Hours"], []⟩
def f__law_min : Fn := ⟨1, none, semB g__law_min 1 none b__law_min⟩
theorem cl__law_min_0 {a0 : IR} {env : Env} : ev g__law_min (.call 0 [a0]) env = (evs g__law_min [a0] env).bind fun ds e1 => runF e1 (f__law_sorted.sem ds) := ev_call rfl rfl rfl
theorem sc__law_min : FnScope ["_law_some"] ["_law_some"] (defScope (top 51)) := ⟨rfl, rfl, rfl, by decide +kernel, rfl, by decide +kernel, by decide +kernel⟩
theorem ok__law_min {f : Addr} {fd : FuncData} (F : Fun K "_law_min" "_law_min" (top 51) f fd) (F__law_sorted : FnF P w K mg base 2 "_law_sorted" f__law_sorted) (z_list : mg "list" = none) :
    FnOk P w K mg base (L2.CX P w) 3 f fd ["_law_some"] (spF K 1 none (semB g__law_min 1 none b__law_min)) :=
  have S := sc__law_min
  fn_body F S (by decide) fun cdv A outer s H E hr =>
    (ss_cons (st_ret (e_ix (e_call F__law_sorted rfl (hr.mono (by decide)) (takes_of rfl rfl rfl rfl) rfl (aa_cons (x_add (b_list z_list rfl (e_v (i := 0) rfl (by first | exact .inl rfl | exact .inr (.inl rfl) | exact .inr (.inr rfl)) (by decide) (by decide)) rfl) (e_lst (as_cons xn as_nil rfl))) aa_nil rfl) rfl) xi (fun _ _ => rfl))) ss_nil)
def b__law_counter : List ST := [.parn3 4 (.bin .mul (.lst [.c (.int 0)]) (.v 2)) 5 (.c (.int 0)) 6 (.lst []), .for_ (.tup [7, 8]) (.zip (.v 0) (.v 1)) [.asg (.name 5) (.call 0 [.v 3, .v 8, .call 1 [.lst [.v 7, .v 5, .call 2 [.v 4]]]]), .asg (.name 9) (.call 3 [.v 5, .v 8]), .asg (.name 4) (.bin .add (.sl (.call 4 [.v 4]) (some (.c (.int 1))) none) (.lst [.v 9])), .expr (.app 6 (.tup [.v 5, .v 9]))], .ret (.v 6)]
def g__law_counter : Ctx := ⟨[f__law_gate, f__law_max, f__law_min, f__law_more, f__law_sorted], [], [], ["Hours"], []⟩
def f__law_counter : Fn := ⟨4, none, semB g__law_counter 10 none b__law_counter⟩
theorem cl__law_counter_0 {a0 a1 a2 : IR} {env : Env} : ev g__law_counter (.call 0 [a0, a1, a2]) env = (evs g__law_counter [a0, a1, a2] env).bind fun ds e1 => runF e1 (f__law_gate.sem ds) := ev_call rfl rfl rfl
theorem cl__law_counter_1 {a0 : IR} {env : Env} : ev g__law_counter (.call 1 [a0]) env = (evs g__law_counter [a0] env).bind fun ds e1 => runF e1 (f__law_max.sem ds) := ev_call rfl rfl rfl
theorem cl__law_counter_2 {a0 : IR} {env : Env} : ev g__law_counter (.call 2 [a0]) env = (evs g__law_counter [a0] env).bind fun ds e1 => runF e1 (f__law_min.sem ds) := ev_call rfl rfl rfl
theorem cl__law_counter_3 {a0 a1 : IR} {env : Env} : ev g__law_counter (.call 3 [a0, a1]) env = (evs g__law_counter [a0, a1] env).bind fun ds e1 => runF e1 (f__law_more.sem ds) := ev_call rfl rfl rfl
theorem cl__law_counter_4 {a0 : IR} {env : Env} : ev g__law_counter (.call 4 [a0]) env = (evs g__law_counter [a0] env).bind fun ds e1 => runF e1 (f__law_sorted.sem ds) := ev_call rfl rfl rfl
theorem sc__law_counter : FnScope ["_law_arrivals_here", "_law_lengths_here", "_law_desks_here", "_law_spans_here", "_law_free", "_law_begin", "_law_found", "_law_arrival_here", "_law_length_here", "_law_end"] ["_law_arrivals_here", "_law_lengths_here", "_law_desks_here", "_law_spans_here"] (defScope (top 52)) := ⟨rfl, rfl, rfl, by decide +kernel, rfl, by decide +kernel, by decide +kernel⟩
theorem ok__law_counter {f : Addr} {fd : FuncData} (F : Fun K "_law_counter" "_law_counter" (top 52) f fd) (F__law_gate : FnF P w K mg base 1 "_law_gate" f__law_gate) (F__law_max : FnF P w K mg base 3 "_law_max" f__law_max) (F__law_min : FnF P w K mg base 3 "_law_min" f__law_min) (F__law_more : FnF P w K mg base 1 "_law_more" f__law_more) (F__law_sorted : FnF P w K mg base 2 "_law_sorted" f__law_sorted) (z_zip : mg "zip" = none) :
    FnOk P w K mg base (L2.CX P w) 4 f fd ["_law_arrivals_here", "_law_lengths_here", "_law_desks_here", "_law_spans_here"] (spF K 4 none (semB g__law_counter 10 none b__law_counter)) :=
  have S := sc__law_counter
  fn_body F S (by decide) fun cdv A outer s H E hr =>
    (ss_cons (st_parn3 (ps_par3 (i := 4) (j := 5) (l := 6) rfl S.nd rfl rfl rfl (by decide) (by decide) (by decide) rfl rfl rfl (pa_cons (x_mul (e_lst (as_cons xi as_nil rfl)) (e_v (i := 2) rfl (by first | exact .inl rfl | exact .inr (.inl rfl) | exact .inr (.inr rfl)) (by decide) (by decide))) (pa_cons xi (pa_cons (l_lst as_nil) pa_nil (star_cons rfl)) (star_cons rfl)) (star_cons rfl)) rfl rfl)) (ss_cons (st_for (ps_for (passes_of rfl) rfl (i_zip rfl z_zip (e_v (i := 0) rfl (by first | exact .inl rfl | exact .inr (.inl rfl) | exact .inr (.inr rfl)) (by decide) (by decide)) (e_v (i := 1) rfl (by first | exact .inl rfl | exact .inr (.inl rfl) | exact .inr (.inr rfl)) (by decide) (by decide)) rfl rfl) (pg_tl rfl (pgs_cons (pg_name (i := 7) S.nd rfl (by first | exact .inl rfl | exact .inr rfl) (by first | exact .inl rfl | exact .inr rfl)) (pgs_cons (pg_name (i := 8) S.nd rfl (by first | exact .inl rfl | exact .inr rfl) (by first | exact .inl rfl | exact .inr rfl)) pgs_nil))) (ss_cons (st_asg (ps_set (i := 5) S.nd rfl (by first | exact .inl rfl | exact .inr rfl) (e_call F__law_gate rfl (hr.mono (by decide)) (takes_of rfl rfl rfl rfl) rfl (aa_cons (e_v (i := 3) rfl (by first | exact .inl rfl | exact .inr (.inl rfl) | exact .inr (.inr rfl)) (by decide) (by decide)) (aa_cons (e_v (i := 8) rfl (by first | exact .inl rfl | exact .inr (.inl rfl) | exact .inr (.inr rfl)) (by decide) (by decide)) (aa_cons (e_call F__law_max rfl (hr.mono (by decide)) (takes_of rfl rfl rfl rfl) rfl (aa_cons (e_lst (as_cons (e_v (i := 7) rfl (by first | exact .inl rfl | exact .inr (.inl rfl) | exact .inr (.inr rfl)) (by decide) (by decide)) (as_cons (e_v (i := 5) rfl (by first | exact .inl rfl | exact .inr (.inl rfl) | exact .inr (.inr rfl)) (by decide) (by decide)) (as_cons (e_call F__law_min rfl (hr.mono (by decide)) (takes_of rfl rfl rfl rfl) rfl (aa_cons (e_v (i := 4) rfl (by first | exact .inl rfl | exact .inr (.inl rfl) | exact .inr (.inr rfl)) (by decide) (by decide)) aa_nil rfl) rfl) as_nil rfl) rfl) rfl)) aa_nil rfl) rfl) aa_nil rfl) rfl) rfl) rfl) rfl (by first | exact .inl rfl | exact .inr rfl))) (ss_cons (st_asg (ps_set (i := 9) S.nd rfl (by first | exact .inl rfl | exact .inr rfl) (e_call F__law_more rfl (hr.mono (by decide)) (takes_of rfl rfl rfl rfl) rfl (aa_cons (e_v (i := 5) rfl (by first | exact .inl rfl | exact .inr (.inl rfl) | exact .inr (.inr rfl)) (by decide) (by decide)) (aa_cons (e_v (i := 8) rfl (by first | exact .inl rfl | exact .inr (.inl rfl) | exact .inr (.inr rfl)) (by decide) (by decide)) aa_nil rfl) rfl) rfl) rfl (by first | exact .inl rfl | exact .inr rfl))) (ss_cons (st_asg (ps_set (i := 4) S.nd rfl (by first | exact .inl rfl | exact .inr rfl) (x_add (e_sl (e_call F__law_sorted rfl (hr.mono (by decide)) (takes_of rfl rfl rfl rfl) rfl (aa_cons (e_v (i := 4) rfl (by first | exact .inl rfl | exact .inr (.inl rfl) | exact .inr (.inr rfl)) (by decide) (by decide)) aa_nil rfl) rfl) (po_some' xi) po_none') (e_lst (as_cons (e_v (i := 9) rfl (by first | exact .inl rfl | exact .inr (.inl rfl) | exact .inr (.inr rfl)) (by decide) (by decide)) as_nil rfl))) rfl (by first | exact .inl rfl | exact .inr rfl))) (ss_cons (st_expr (e_app (i := 6) rfl (by first | exact .inl rfl | exact .inr (.inl rfl) | exact .inr (.inr rfl)) (by decide) (by decide) (e_tup (as_cons (e_v (i := 5) rfl (by first | exact .inl rfl | exact .inr (.inl rfl) | exact .inr (.inr rfl)) (by decide) (by decide)) (as_cons (e_v (i := 9) rfl (by first | exact .inl rfl | exact .inr (.inl rfl) | exact .inr (.inr rfl)) (by decide) (by decide)) as_nil rfl) rfl)) rfl (by rfl) rfl) rfl) ss_nil)))) (fun _ => rfl))) (ss_cons (st_ret (e_v (i := 6) rfl (by first | exact .inl rfl | exact .inr (.inl rfl) | exact .inr (.inr rfl)) (by decide) (by decide))) ss_nil)))
def b__law_row_right : List ST := [.asg (.name 4) (.make 0 [.v 3]), .asg (.name 5) (.call 0 [.v 0, .v 1, .v 2, .v 3]), .if_ (.cmp .ne (.call 1 [.v 0, .blt .tuple [.v 1], .v 2, .v 4]) (.v 5)) [.ret (.c (.bl false))] [], .for_ (.name 6) (.rng1 (.blt .len [.v 5])) [.par [7, 8] [.ite (.cmp .gt (.v 6) (.c (.int 0))) (.ix (.ix (.v 5) (.bin .sub (.v 6) (.c (.int 1)))) (.c (.int 0))) (.c (.int 0)), .lc (.name 9) (.seq (.sl (.v 5) none (some (.v 6)))) none (.ix (.v 9) (.c (.int 1))) [9]], .if_ (.cmp .ne (.call 2 [.ix (.v 0) (.v 6), .v 7, .v 8, .v 2, .v 4, .ix (.v 1) (.v 6)]) (.ix (.ix (.v 5) (.v 6)) (.c (.int 0)))) [.ret (.c (.bl false))] []], .ret (.c (.bl true))]
def g__law_row_right : Ctx := ⟨[f__law_counter, f_counter_row, f_counter_begin], [], [k_Hours], ["Hours"], []⟩
def f__law_row_right : Fn := ⟨4, none, semB g__law_row_right 10 none b__law_row_right⟩
theorem cl__law_row_right_0 {a0 a1 a2 a3 : IR} {env : Env} : ev g__law_row_right (.call 0 [a0, a1, a2, a3]) env = (evs g__law_row_right [a0, a1, a2, a3] env).bind fun ds e1 => runF e1 (f__law_counter.sem ds) := ev_call rfl rfl rfl
theorem cl__law_row_right_1 {a0 a1 a2 a3 : IR} {env : Env} : ev g__law_row_right (.call 1 [a0, a1, a2, a3]) env = (evs g__law_row_right [a0, a1, a2, a3] env).bind fun ds e1 => runF e1 (f_counter_row.sem ds) := ev_call rfl rfl rfl
theorem cl__law_row_right_2 {a0 a1 a2 a3 a4 a5 : IR} {env : Env} : ev g__law_row_right (.call 2 [a0, a1, a2, a3, a4, a5]) env = (evs g__law_row_right [a0, a1, a2, a3, a4, a5] env).bind fun ds e1 => runF e1 (f_counter_begin.sem ds) := ev_call rfl rfl rfl
theorem sc__law_row_right : FnScope ["_law_arrivals_here", "_law_lengths_here", "_law_desks_here", "_law_spans_here", "_law_hours_here", "_law_due", "_law_at", "_law_begin", "_law_ends", "_law_row"] ["_law_arrivals_here", "_law_lengths_here", "_law_desks_here", "_law_spans_here"] (defScope (top 53)) := ⟨rfl, rfl, rfl, by decide +kernel, rfl, by decide +kernel, by decide +kernel⟩
theorem ok__law_row_right {f : Addr} {fd : FuncData} (F : Fun K "_law_row_right" "_law_row_right" (top 53) f fd) (F__law_counter : FnF P w K mg base 4 "_law_counter" f__law_counter) (F_counter_row : FnF P w K mg base 7 "counter_row" f_counter_row) (F_counter_begin : FnF P w K mg base 6 "counter_begin" f_counter_begin) (C_Hours : MkF P w K mg base 6 "Hours" k_Hours) (z_tuple : mg "tuple" = none) (z_range : mg "range" = none) (z_len : mg "len" = none) :
    FnOk P w K mg base (L2.CX P w) 8 f fd ["_law_arrivals_here", "_law_lengths_here", "_law_desks_here", "_law_spans_here"] (spF K 4 none (semB g__law_row_right 10 none b__law_row_right)) :=
  have S := sc__law_row_right
  fn_body F S (by decide) fun cdv A outer s H E hr =>
    (ss_cons (st_asg (ps_set (i := 4) S.nd rfl (by first | exact .inl rfl | exact .inr rfl) (e_make C_Hours rfl (hr.mono (by decide)) (takes_of rfl rfl rfl rfl) rfl (as_cons (e_v (i := 3) rfl (by first | exact .inl rfl | exact .inr (.inl rfl) | exact .inr (.inr rfl)) (by decide) (by decide)) as_nil rfl) rfl) rfl (by first | exact .inl rfl | exact .inr rfl))) (ss_cons (st_asg (ps_set (i := 5) S.nd rfl (by first | exact .inl rfl | exact .inr rfl) (e_call F__law_counter rfl (hr.mono (by decide)) (takes_of rfl rfl rfl rfl) rfl (aa_cons (e_v (i := 0) rfl (by first | exact .inl rfl | exact .inr (.inl rfl) | exact .inr (.inr rfl)) (by decide) (by decide)) (aa_cons (e_v (i := 1) rfl (by first | exact .inl rfl | exact .inr (.inl rfl) | exact .inr (.inr rfl)) (by decide) (by decide)) (aa_cons (e_v (i := 2) rfl (by first | exact .inl rfl | exact .inr (.inl rfl) | exact .inr (.inr rfl)) (by decide) (by decide)) (aa_cons (e_v (i := 3) rfl (by first | exact .inl rfl | exact .inr (.inl rfl) | exact .inr (.inr rfl)) (by decide) (by decide)) aa_nil rfl) rfl) rfl) rfl) rfl) rfl (by first | exact .inl rfl | exact .inr rfl))) (ss_cons (st_if (y_ne (hu64 hr) (e_call F_counter_row rfl (hr.mono (by decide)) (takes_of rfl rfl rfl rfl) rfl (aa_cons (e_v (i := 0) rfl (by first | exact .inl rfl | exact .inr (.inl rfl) | exact .inr (.inr rfl)) (by decide) (by decide)) (aa_cons (b_tuple z_tuple rfl (e_v (i := 1) rfl (by first | exact .inl rfl | exact .inr (.inl rfl) | exact .inr (.inr rfl)) (by decide) (by decide)) rfl) (aa_cons (e_v (i := 2) rfl (by first | exact .inl rfl | exact .inr (.inl rfl) | exact .inr (.inr rfl)) (by decide) (by decide)) (aa_cons (e_v (i := 4) rfl (by first | exact .inl rfl | exact .inr (.inl rfl) | exact .inr (.inr rfl)) (by decide) (by decide)) aa_nil rfl) rfl) rfl) rfl) rfl) (e_v (i := 5) rfl (by first | exact .inl rfl | exact .inr (.inl rfl) | exact .inr (.inr rfl)) (by decide) (by decide))) (ss_cons (st_ret xb) ss_nil) ss_nil) (ss_cons (st_for (ps_for (passes_of rfl) rfl (i_rng1 rfl z_range (b_len z_len rfl (e_v (i := 5) rfl (by first | exact .inl rfl | exact .inr (.inl rfl) | exact .inr (.inr rfl)) (by decide) (by decide)) rfl) rfl) (pg_name (i := 6) S.nd rfl (by first | exact .inl rfl | exact .inr rfl) (by first | exact .inl rfl | exact .inr rfl)) (ss_cons (st_par2 (ps_par (i := 7) (j := 8) rfl S.nd rfl rfl (by decide) rfl rfl (as_cons (e_ite (y_gt (e_v (i := 6) rfl (by first | exact .inl rfl | exact .inr (.inl rfl) | exact .inr (.inr rfl)) (by decide) (by decide)) xi) (e_ix (e_ix (e_v (i := 5) rfl (by first | exact .inl rfl | exact .inr (.inl rfl) | exact .inr (.inr rfl)) (by decide) (by decide)) (x_sub (e_v (i := 6) rfl (by first | exact .inl rfl | exact .inr (.inl rfl) | exact .inr (.inr rfl)) (by decide) (by decide)) xi) (fun _ _ => rfl)) xi (fun _ _ => rfl)) xi) (as_cons (e_lc (own := [("_law_row", 9)]) rfl S.nd (i_seq (e_sl (e_v (i := 5) rfl (by first | exact .inl rfl | exact .inr (.inl rfl) | exact .inr (.inr rfl)) (by decide) (by decide)) po_none' (po_some' (e_v (i := 6) rfl (by first | exact .inl rfl | exact .inr (.inl rfl) | exact .inr (.inr rfl)) (by decide) (by decide))))) (blkOk_by (N := ["_law_arrivals_here", "_law_lengths_here", "_law_desks_here", "_law_spans_here", "_law_hours_here", "_law_due", "_law_at", "_law_begin", "_law_ends", "_law_row"]) (sc := defScope (top 53)) (by decide +kernel)) (fun _ _ _ _ _ => (pg_name (i := 9) S.nd rfl (by first | exact .inl rfl | exact .inr rfl) (by first | exact .inl rfl | exact .inr rfl))) (fun _ _ _ _ _ => pts_nil) (fun _ _ _ _ _ => (e_ix (e_v (i := 9) rfl (by first | exact .inl rfl | exact .inr (.inl rfl) | exact .inr (.inr rfl)) (by decide) (by decide)) xi (fun _ _ => rfl))) (fun _ => rfl)) as_nil rfl) rfl) rfl rfl)) (ss_cons (st_if (y_ne (hu64 hr) (e_call F_counter_begin rfl (hr.mono (by decide)) (takes_of rfl rfl rfl rfl) rfl (aa_cons (e_ix (e_v (i := 0) rfl (by first | exact .inl rfl | exact .inr (.inl rfl) | exact .inr (.inr rfl)) (by decide) (by decide)) (e_v (i := 6) rfl (by first | exact .inl rfl | exact .inr (.inl rfl) | exact .inr (.inr rfl)) (by decide) (by decide)) (fun _ _ => rfl)) (aa_cons (e_v (i := 7) rfl (by first | exact .inl rfl | exact .inr (.inl rfl) | exact .inr (.inr rfl)) (by decide) (by decide)) (aa_cons (e_v (i := 8) rfl (by first | exact .inl rfl | exact .inr (.inl rfl) | exact .inr (.inr rfl)) (by decide) (by decide)) (aa_cons (e_v (i := 2) rfl (by first | exact .inl rfl | exact .inr (.inl rfl) | exact .inr (.inr rfl)) (by decide) (by decide)) (aa_cons (e_v (i := 4) rfl (by first | exact .inl rfl | exact .inr (.inl rfl) | exact .inr (.inr rfl)) (by decide) (by decide)) (aa_cons (e_ix (e_v (i := 1) rfl (by first | exact .inl rfl | exact .inr (.inl rfl) | exact .inr (.inr rfl)) (by decide) (by decide)) (e_v (i := 6) rfl (by first | exact .inl rfl | exact .inr (.inl rfl) | exact .inr (.inr rfl)) (by decide) (by decide)) (fun _ _ => rfl)) aa_nil rfl) rfl) rfl) rfl) rfl) rfl) rfl) (e_ix (e_ix (e_v (i := 5) rfl (by first | exact .inl rfl | exact .inr (.inl rfl) | exact .inr (.inr rfl)) (by decide) (by decide)) (e_v (i := 6) rfl (by first | exact .inl rfl | exact .inr (.inl rfl) | exact .inr (.inr rfl)) (by decide) (by decide)) (fun _ _ => rfl)) xi (fun _ _ => rfl))) (ss_cons (st_ret xb) ss_nil) ss_nil) ss_nil)) (fun _ => rfl))) (ss_cons (st_ret xb) ss_nil)))))
def b__law_refuses : List ST := [.asg (.name 1) (.lst [.lst [.neg (.c (.int 1)), .c (.str "number")], .lst [.c (.bl true), .c (.str "number")], .lst [.c (.str "0"), .c (.str "number")]]), .asg (.tup [4, 5]) (.call 0 [.v 0, .v 1]), .if_ (.cmp .ne (.heard cs__law_heard (.call 1 [.v 4, .c (.str "x"), .c .non, .c (.int 0), .c (.int 1), .neg (.c (.int 1))])) (.lst [.v 5, .blt .repr [.v 4]])) [.ret (.c (.bl false))] [], .if_ (.cmp .ne (.heard cs__law_heard (.call 1 [.c .non, .v 4, .c .non, .c (.int 0), .c (.int 1), .neg (.c (.int 1))])) (.lst [.v 5, .blt .repr [.v 4]])) [.ret (.c (.bl false))] [], .if_ (.cmp .ne (.heard cs__law_heard (.call 1 [.c (.int 0), .c (.int 0), .lst [.v 4], .c (.int 0), .c (.int 1), .neg (.c (.int 1))])) (.lst [.c (.str "part"), .c (.str "'ends'")])) [.ret (.c (.bl false))] [], .asg (.name 2) (.call 0 [.v 0, .lst [.c (.int 0), .c (.int 4), .c .non, .c (.bl true)]]), .if_ (.cmp .ne (.heard cs__law_heard (.call 1 [.c (.int 0), .c (.int 0), .lst [.c (.int 1)], .v 2, .c (.int 1), .neg (.c (.int 1))])) (.lst [.c (.str "number"), .blt .repr [.v 2]])) [.ret (.c (.bl false))] [], .if_ (.cmp .ne (.heard cs__law_heard (.call 1 [.c (.int 0), .c (.int 0), .lst [.c (.int 1)], .c (.int 1), .lst [.tup [.c (.int 0), .c (.int 1)]], .neg (.c (.int 1))])) (.lst [.c (.str "part"), .c (.str "'hours'")])) [.ret (.c (.bl false))] [], .if_ (.cmp .ne (.heard cs__law_heard (.call 1 [.c (.int 0), .c (.int 0), .lst [.c (.int 1)], .c (.int 1), .make 0 [], .v 4])) (.lst [.c (.str "number"), .blt .repr [.v 4]])) [.ret (.c (.bl false))] [], .if_ (.cmp .ne (.heard cs__law_heard (.call 2 [.lst [.v 4], .c .non, .c (.int 0), .c (.int 1)])) (.lst [.c (.str "part"), .c (.str "'arrivals'")])) [.ret (.c (.bl false))] [], .asg (.name 3) (.call 0 [.v 0, .lst [.c .non, .lst [.c (.int 1), .c (.int 2)], .lst [], .lst [.v 4], .lst [.c .non]]]), .if_ (.cmp .ne (.heard cs__law_heard (.call 2 [.lst [.c (.int 0)], .v 3, .c (.int 0), .c (.int 1)])) (.lst [.c (.str "part"), .c (.str "'lengths'")])) [.ret (.c (.bl false))] [], .if_ (.cmp .ne (.heard cs__law_heard (.call 2 [.lst [.c (.int 0)], .lst [.c (.int 1)], .v 2, .c (.int 1)])) (.lst [.c (.str "number"), .blt .repr [.v 2]])) [.ret (.c (.bl false))] [], .ret (.cmp .eq (.heard cs__law_heard (.call 2 [.lst [], .lst [], .c (.int 3), .c .non])) (.lst [.c (.str "part"), .c (.str "'hours'")]))]
def g__law_refuses : Ctx := ⟨[f__law_one, f_counter_begin, f_counter_row], [], [k_Hours_0], ["Hours"], []⟩
def f__law_refuses : Fn := ⟨1, some 0, semB g__law_refuses 6 (some 0) b__law_refuses⟩
theorem sc__law_refuses : FnScope ["_law_source", "_law_some", "_law_bad", "_law_wrong", "_law_odd", "_law_word"] ["_law_source"] (defScope (top 54)) := ⟨rfl, rfl, rfl, by decide +kernel, rfl, by decide +kernel, by decide +kernel⟩
theorem ok__law_refuses {f : Addr} {fd : FuncData} (F : Fun K "_law_refuses" "_law_refuses" (top 54) f fd) (hgd : GdW.gd) {I_BadPart : Addr} (T_BadPart : PySem.ErrBadPart.LowTxt K mg (clsAt K "BadPart") I_BadPart) {I_BadNumber : Addr} (T_BadNumber : PySem.ErrBadNumber.LowTxt K mg (clsAt K "BadNumber") I_BadNumber) {I_BadIndex : Addr} (T_BadIndex : PySem.ErrBadIndex.LowTxt K mg (clsAt K "BadIndex") I_BadIndex) {h__law_heard : Addr} {v__law_heard : Value} (EF__law_heard : ClsFacts K cs__law_heard) (H__law_heard : HrdF K mg "_law_heard" (top 43) "_law_call" h__law_heard v__law_heard) {c_L P_L : Addr} (LT : LamT base mg fd (PySem.Str.ofString "_law_refuses" ++ PySem.Str.ofString ".<locals>.") c_L P_L) (F__law_one : FnF P w K mg base 2 "_law_one" f__law_one) (L_counter_begin : @FnF _ ⟨False⟩ P w K mg base 6 "counter_begin" f_counter_begin) (L_counter_row : @FnF _ ⟨False⟩ P w K mg base 7 "counter_row" f_counter_row) (LC_Hours_0 : @MkF _ ⟨False⟩ P w K mg base 6 "Hours" k_Hours_0) (z_repr : mg "repr" = none) :
    FnOk P w K mg base (L2.CX P w) 10 f fd ["_law_source"] (spF K 1 (some 0) (semB g__law_refuses 6 (some 0) b__law_refuses)) :=
  have S := sc__law_refuses
  fn_bodyC F LT.code S (by decide) fun A outer s H E hr =>
    (ss_cons (st_asg (ps_set (i := 1) S.nd rfl (by first | exact .inl rfl | exact .inr rfl) (e_lst (as_cons (e_lst (as_cons (e_neg xi) (as_cons xs as_nil rfl) rfl)) (as_cons (e_lst (as_cons xb (as_cons xs as_nil rfl) rfl)) (as_cons (e_lst (as_cons xs (as_cons xs as_nil rfl) rfl)) as_nil rfl) rfl) rfl)) rfl (by first | exact .inl rfl | exact .inr rfl))) (ss_cons (st_asg (ps_asg (e_call F__law_one rfl (hr.mono (by decide)) (takes_of rfl rfl rfl rfl) rfl (aa_cons (e_v (i := 0) rfl (by first | exact .inl rfl | exact .inr (.inl rfl) | exact .inr (.inr rfl)) (by decide) (by decide)) (aa_cons (e_v (i := 1) rfl (by first | exact .inl rfl | exact .inr (.inl rfl) | exact .inr (.inr rfl)) (by decide) (by decide)) aa_nil rfl) rfl) rfl) (pg_tl rfl (pgs_cons (pg_name (i := 4) S.nd rfl (by first | exact .inl rfl | exact .inr rfl) (by first | exact .inl rfl | exact .inr rfl)) (pgs_cons (pg_name (i := 5) S.nd rfl (by first | exact .inl rfl | exact .inr rfl) (by first | exact .inl rfl | exact .inr rfl)) pgs_nil))) rfl rfl rfl)) (ss_cons (st_if (y_ne (hu64 hr) (e_hrd (k := 6) EF__law_heard H__law_heard sc__law_heard rfl (by first | exact .inl rfl | exact .inr (.inl rfl) | exact .inr (.inr rfl)) (hG__law_heard (hr.g hgd) hr.r.u100 z_repr T_BadPart T_BadNumber T_BadIndex) LT (by rfl) (by rfl) (hr.r.mono (by decide)) (by rfl) (LamX.lamS_by (by first | rfl | kernel_rfl)) rfl (fun _ _ _ _ _ => rfl) (fun A2 out2 s2 H2 E2 f2 c2 hr2 => (e_callP L_counter_begin rfl (hr2.mono (by decide)) lam_takes rfl (aa_cons (e_v (i := 4) rfl (by first | exact .inl rfl | exact .inr (.inl rfl) | exact .inr (.inr rfl)) (by decide) (by decide)) (aa_cons xs (aa_cons xn (aa_cons xi (aa_cons xi (aa_cons (e_neg xi) aa_nil rfl) rfl) rfl) rfl) rfl) rfl) rfl)) (by decide) (by decide) (by decide)) (e_lst (as_cons (e_v (i := 5) rfl (by first | exact .inl rfl | exact .inr (.inl rfl) | exact .inr (.inr rfl)) (by decide) (by decide)) (as_cons (b_repr (hr.g hgd) hr.r z_repr rfl (e_v (i := 4) rfl (by first | exact .inl rfl | exact .inr (.inl rfl) | exact .inr (.inr rfl)) (by decide) (by decide)) rfl) as_nil rfl) rfl))) (ss_cons (st_ret xb) ss_nil) ss_nil) (ss_cons (st_if (y_ne (hu64 hr) (e_hrd (k := 6) EF__law_heard H__law_heard sc__law_heard rfl (by first | exact .inl rfl | exact .inr (.inl rfl) | exact .inr (.inr rfl)) (hG__law_heard (hr.g hgd) hr.r.u100 z_repr T_BadPart T_BadNumber T_BadIndex) LT (by rfl) (by rfl) (hr.r.mono (by decide)) (by rfl) (LamX.lamS_by (by first | rfl | kernel_rfl)) rfl (fun _ _ _ _ _ => rfl) (fun A2 out2 s2 H2 E2 f2 c2 hr2 => (e_callP L_counter_begin rfl (hr2.mono (by decide)) lam_takes rfl (aa_cons xn (aa_cons (e_v (i := 4) rfl (by first | exact .inl rfl | exact .inr (.inl rfl) | exact .inr (.inr rfl)) (by decide) (by decide)) (aa_cons xn (aa_cons xi (aa_cons xi (aa_cons (e_neg xi) aa_nil rfl) rfl) rfl) rfl) rfl) rfl) rfl)) (by decide) (by decide) (by decide)) (e_lst (as_cons (e_v (i := 5) rfl (by first | exact .inl rfl | exact .inr (.inl rfl) | exact .inr (.inr rfl)) (by decide) (by decide)) (as_cons (b_repr (hr.g hgd) hr.r z_repr rfl (e_v (i := 4) rfl (by first | exact .inl rfl | exact .inr (.inl rfl) | exact .inr (.inr rfl)) (by decide) (by decide)) rfl) as_nil rfl) rfl))) (ss_cons (st_ret xb) ss_nil) ss_nil) (ss_cons (st_if (y_ne (hu64 hr) (e_hrd (k := 6) EF__law_heard H__law_heard sc__law_heard rfl (by first | exact .inl rfl | exact .inr (.inl rfl) | exact .inr (.inr rfl)) (hG__law_heard (hr.g hgd) hr.r.u100 z_repr T_BadPart T_BadNumber T_BadIndex) LT (by rfl) (by rfl) (hr.r.mono (by decide)) (by rfl) (LamX.lamS_by (by first | rfl | kernel_rfl)) rfl (fun _ _ _ _ _ => rfl) (fun A2 out2 s2 H2 E2 f2 c2 hr2 => (e_callP L_counter_begin rfl (hr2.mono (by decide)) lam_takes rfl (aa_cons xi (aa_cons xi (aa_cons (e_lst (as_cons (e_v (i := 4) rfl (by first | exact .inl rfl | exact .inr (.inl rfl) | exact .inr (.inr rfl)) (by decide) (by decide)) as_nil rfl)) (aa_cons xi (aa_cons xi (aa_cons (e_neg xi) aa_nil rfl) rfl) rfl) rfl) rfl) rfl) rfl)) (by decide) (by decide) (by decide)) (e_lst (as_cons xs (as_cons xs as_nil rfl) rfl))) (ss_cons (st_ret xb) ss_nil) ss_nil) (ss_cons (st_asg (ps_set (i := 2) S.nd rfl (by first | exact .inl rfl | exact .inr rfl) (e_call F__law_one rfl (hr.mono (by decide)) (takes_of rfl rfl rfl rfl) rfl (aa_cons (e_v (i := 0) rfl (by first | exact .inl rfl | exact .inr (.inl rfl) | exact .inr (.inr rfl)) (by decide) (by decide)) (aa_cons (e_lst (as_cons xi (as_cons xi (as_cons xn (as_cons xb as_nil rfl) rfl) rfl) rfl)) aa_nil rfl) rfl) rfl) rfl (by first | exact .inl rfl | exact .inr rfl))) (ss_cons (st_if (y_ne (hu64 hr) (e_hrd (k := 6) EF__law_heard H__law_heard sc__law_heard rfl (by first | exact .inl rfl | exact .inr (.inl rfl) | exact .inr (.inr rfl)) (hG__law_heard (hr.g hgd) hr.r.u100 z_repr T_BadPart T_BadNumber T_BadIndex) LT (by rfl) (by rfl) (hr.r.mono (by decide)) (by rfl) (LamX.lamS_by (by first | rfl | kernel_rfl)) rfl (fun _ _ _ _ _ => rfl) (fun A2 out2 s2 H2 E2 f2 c2 hr2 => (e_callP L_counter_begin rfl (hr2.mono (by decide)) lam_takes rfl (aa_cons xi (aa_cons xi (aa_cons (e_lst (as_cons xi as_nil rfl)) (aa_cons (e_v (i := 2) rfl (by first | exact .inl rfl | exact .inr (.inl rfl) | exact .inr (.inr rfl)) (by decide) (by decide)) (aa_cons xi (aa_cons (e_neg xi) aa_nil rfl) rfl) rfl) rfl) rfl) rfl) rfl)) (by decide) (by decide) (by decide)) (e_lst (as_cons xs (as_cons (b_repr (hr.g hgd) hr.r z_repr rfl (e_v (i := 2) rfl (by first | exact .inl rfl | exact .inr (.inl rfl) | exact .inr (.inr rfl)) (by decide) (by decide)) rfl) as_nil rfl) rfl))) (ss_cons (st_ret xb) ss_nil) ss_nil) (ss_cons (st_if (y_ne (hu64 hr) (e_hrd (k := 6) EF__law_heard H__law_heard sc__law_heard rfl (by first | exact .inl rfl | exact .inr (.inl rfl) | exact .inr (.inr rfl)) (hG__law_heard (hr.g hgd) hr.r.u100 z_repr T_BadPart T_BadNumber T_BadIndex) LT (by rfl) (by rfl) (hr.r.mono (by decide)) (by rfl) (LamX.lamS_by (by first | rfl | kernel_rfl)) rfl (fun _ _ _ _ _ => rfl) (fun A2 out2 s2 H2 E2 f2 c2 hr2 => (e_callP L_counter_begin rfl (hr2.mono (by decide)) lam_takes rfl (aa_cons xi (aa_cons xi (aa_cons (e_lst (as_cons xi as_nil rfl)) (aa_cons xi (aa_cons (e_lst (as_cons (e_tup (as_cons xi (as_cons xi as_nil rfl) rfl)) as_nil rfl)) (aa_cons (e_neg xi) aa_nil rfl) rfl) rfl) rfl) rfl) rfl) rfl)) (by decide) (by decide) (by decide)) (e_lst (as_cons xs (as_cons xs as_nil rfl) rfl))) (ss_cons (st_ret xb) ss_nil) ss_nil) (ss_cons (st_if (y_ne (hu64 hr) (e_hrd (k := 7) EF__law_heard H__law_heard sc__law_heard rfl (by first | exact .inl rfl | exact .inr (.inl rfl) | exact .inr (.inr rfl)) (hG__law_heard (hr.g hgd) hr.r.u100 z_repr T_BadPart T_BadNumber T_BadIndex) LT (by rfl) (by rfl) (hr.r.mono (by decide)) (by rfl) (LamX.lamS_by (by first | rfl | kernel_rfl)) rfl (fun _ _ _ _ _ => rfl) (fun A2 out2 s2 H2 E2 f2 c2 hr2 => (e_callP L_counter_begin rfl (hr2.mono (by decide)) lam_takes rfl (aa_cons xi (aa_cons xi (aa_cons (e_lst (as_cons xi as_nil rfl)) (aa_cons xi (aa_cons (e_make0P LC_Hours_0 rfl (hr2.mono (by decide)) lam_takes rfl) (aa_cons (e_v (i := 4) rfl (by first | exact .inl rfl | exact .inr (.inl rfl) | exact .inr (.inr rfl)) (by decide) (by decide)) aa_nil rfl) rfl) rfl) rfl) rfl) rfl) rfl)) (by decide) (by decide) (by decide)) (e_lst (as_cons xs (as_cons (b_repr (hr.g hgd) hr.r z_repr rfl (e_v (i := 4) rfl (by first | exact .inl rfl | exact .inr (.inl rfl) | exact .inr (.inr rfl)) (by decide) (by decide)) rfl) as_nil rfl) rfl))) (ss_cons (st_ret xb) ss_nil) ss_nil) (ss_cons (st_if (y_ne (hu64 hr) (e_hrd (k := 7) EF__law_heard H__law_heard sc__law_heard rfl (by first | exact .inl rfl | exact .inr (.inl rfl) | exact .inr (.inr rfl)) (hG__law_heard (hr.g hgd) hr.r.u100 z_repr T_BadPart T_BadNumber T_BadIndex) LT (by rfl) (by rfl) (hr.r.mono (by decide)) (by rfl) (LamX.lamS_by (by first | rfl | kernel_rfl)) rfl (fun _ _ _ _ _ => rfl) (fun A2 out2 s2 H2 E2 f2 c2 hr2 => (e_callP L_counter_row rfl (hr2.mono (by decide)) lam_takes rfl (aa_cons (e_lst (as_cons (e_v (i := 4) rfl (by first | exact .inl rfl | exact .inr (.inl rfl) | exact .inr (.inr rfl)) (by decide) (by decide)) as_nil rfl)) (aa_cons xn (aa_cons xi (aa_cons xi aa_nil rfl) rfl) rfl) rfl) rfl)) (by decide) (by decide) (by decide)) (e_lst (as_cons xs (as_cons xs as_nil rfl) rfl))) (ss_cons (st_ret xb) ss_nil) ss_nil) (ss_cons (st_asg (ps_set (i := 3) S.nd rfl (by first | exact .inl rfl | exact .inr rfl) (e_call F__law_one rfl (hr.mono (by decide)) (takes_of rfl rfl rfl rfl) rfl (aa_cons (e_v (i := 0) rfl (by first | exact .inl rfl | exact .inr (.inl rfl) | exact .inr (.inr rfl)) (by decide) (by decide)) (aa_cons (e_lst (as_cons xn (as_cons (e_lst (as_cons xi (as_cons xi as_nil rfl) rfl)) (as_cons (e_lst as_nil) (as_cons (e_lst (as_cons (e_v (i := 4) rfl (by first | exact .inl rfl | exact .inr (.inl rfl) | exact .inr (.inr rfl)) (by decide) (by decide)) as_nil rfl)) (as_cons (e_lst (as_cons xn as_nil rfl)) as_nil rfl) rfl) rfl) rfl) rfl)) aa_nil rfl) rfl) rfl) rfl (by first | exact .inl rfl | exact .inr rfl))) (ss_cons (st_if (y_ne (hu64 hr) (e_hrd (k := 7) EF__law_heard H__law_heard sc__law_heard rfl (by first | exact .inl rfl | exact .inr (.inl rfl) | exact .inr (.inr rfl)) (hG__law_heard (hr.g hgd) hr.r.u100 z_repr T_BadPart T_BadNumber T_BadIndex) LT (by rfl) (by rfl) (hr.r.mono (by decide)) (by rfl) (LamX.lamS_by (by first | rfl | kernel_rfl)) rfl (fun _ _ _ _ _ => rfl) (fun A2 out2 s2 H2 E2 f2 c2 hr2 => (e_callP L_counter_row rfl (hr2.mono (by decide)) lam_takes rfl (aa_cons (e_lst (as_cons xi as_nil rfl)) (aa_cons (e_v (i := 3) rfl (by first | exact .inl rfl | exact .inr (.inl rfl) | exact .inr (.inr rfl)) (by decide) (by decide)) (aa_cons xi (aa_cons xi aa_nil rfl) rfl) rfl) rfl) rfl)) (by decide) (by decide) (by decide)) (e_lst (as_cons xs (as_cons xs as_nil rfl) rfl))) (ss_cons (st_ret xb) ss_nil) ss_nil) (ss_cons (st_if (y_ne (hu64 hr) (e_hrd (k := 7) EF__law_heard H__law_heard sc__law_heard rfl (by first | exact .inl rfl | exact .inr (.inl rfl) | exact .inr (.inr rfl)) (hG__law_heard (hr.g hgd) hr.r.u100 z_repr T_BadPart T_BadNumber T_BadIndex) LT (by rfl) (by rfl) (hr.r.mono (by decide)) (by rfl) (LamX.lamS_by (by first | rfl | kernel_rfl)) rfl (fun _ _ _ _ _ => rfl) (fun A2 out2 s2 H2 E2 f2 c2 hr2 => (e_callP L_counter_row rfl (hr2.mono (by decide)) lam_takes rfl (aa_cons (e_lst (as_cons xi as_nil rfl)) (aa_cons (e_lst (as_cons xi as_nil rfl)) (aa_cons (e_v (i := 2) rfl (by first | exact .inl rfl | exact .inr (.inl rfl) | exact .inr (.inr rfl)) (by decide) (by decide)) (aa_cons xi aa_nil rfl) rfl) rfl) rfl) rfl)) (by decide) (by decide) (by decide)) (e_lst (as_cons xs (as_cons (b_repr (hr.g hgd) hr.r z_repr rfl (e_v (i := 2) rfl (by first | exact .inl rfl | exact .inr (.inl rfl) | exact .inr (.inr rfl)) (by decide) (by decide)) rfl) as_nil rfl) rfl))) (ss_cons (st_ret xb) ss_nil) ss_nil) (ss_cons (st_ret (x_eq (hu64 hr) (e_hrd (k := 7) EF__law_heard H__law_heard sc__law_heard rfl (by first | exact .inl rfl | exact .inr (.inl rfl) | exact .inr (.inr rfl)) (hG__law_heard (hr.g hgd) hr.r.u100 z_repr T_BadPart T_BadNumber T_BadIndex) LT (by rfl) (by rfl) (hr.r.mono (by decide)) (by rfl) (LamX.lamS_by (by first | rfl | kernel_rfl)) rfl (fun _ _ _ _ _ => rfl) (fun A2 out2 s2 H2 E2 f2 c2 hr2 => (e_callP L_counter_row rfl (hr2.mono (by decide)) lam_takes rfl (aa_cons (e_lst as_nil) (aa_cons (e_lst as_nil) (aa_cons xi (aa_cons xn aa_nil rfl) rfl) rfl) rfl) rfl)) (by decide) (by decide) (by decide)) (e_lst (as_cons xs (as_cons xs as_nil rfl) rfl)))) ss_nil))))))))))))))
def b_law : List ST := [.for_ (.name 1) (.seq (.call 0 [.v 0])) [.new 2 (.call 0 [.v 0, .v 1]), .asg (.name 3) (.lc (.name 6) (.rng1 (.call 1 [.v 2, .c (.int 7)])) none (.call 2 [.v 2, .call 3 [.v 2, .lst [.c (.int 4), .c (.int 12)]]]) [6]), .if_ (.cmp .gt (.call 1 [.v 2, .c (.int 4)]) (.c (.int 0))) [.asg (.name 3) (.lc (.name 7) (.seq (.v 3)) none (.or_ (.v 7) (.c (.int 0))) [7])] [], .asg (.name 4) (.lc (.name 7) (.seq (.v 3)) none (.call 3 [.v 2, .lst [.c (.int 0), .c (.int 1), .c (.int 2), .c (.int 5), .c (.int 9)]]) [7]), .asg (.name 5) (.ite (.cmp .eq (.call 1 [.v 2, .c (.int 4)]) (.c (.int 0))) (.call 4 [.v 2]) (.c .non)), .if_ (.not_ (.call 5 [.v 3, .v 4, .bin .add (.c (.int 1)) (.call 1 [.v 2, .c (.int 3)]), .v 5])) [.ret (.c (.bl false))] [], .if_ (.not_ (.call 6 [.v 2])) [.ret (.c (.bl false))] []], .ret (.and_ (.cmp .eq (.call 7 [.lst [], .lst [], .c (.int 1), .make 0 []]) (.lst [])) (.cmp .eq (.call 7 [.lst [.c (.int 5), .c (.int 3)], .lst [.c (.int 10), .c (.int 4)], .c (.int 1), .make 0 []]) (.lst [.tup [.c (.int 5), .c (.int 15)], .tup [.c (.int 15), .c (.int 19)]])))]
def g_law : Ctx := ⟨[f__law_rounds, f__law_take, f__law_moment, f__law_one, f__law_spans, f__law_row_right, f__law_refuses, f_counter_row], [], [k_Hours_0], ["Hours"], [f__law_pool]⟩
theorem cl_law_0 {a0 : IR} {env : Env} : ev g_law (.call 0 [a0]) env = (evs g_law [a0] env).bind fun ds e1 => runF e1 (f__law_rounds.sem ds) := ev_call rfl rfl rfl
theorem cl_law_5 {a0 a1 a2 a3 : IR} {env : Env} : ev g_law (.call 5 [a0, a1, a2, a3]) env = (evs g_law [a0, a1, a2, a3] env).bind fun ds e1 => runF e1 (f__law_row_right.sem ds) := ev_call rfl rfl rfl
theorem cl_law_7 {a0 a1 a2 a3 : IR} {env : Env} : ev g_law (.call 7 [a0, a1, a2, a3]) env = (evs g_law [a0, a1, a2, a3] env).bind fun ds e1 => runF e1 (f_counter_row.sem ds) := ev_call rfl rfl rfl
theorem sc_law : FnScope ["_law_script", "_law_k", "_law_source", "_law_arrivals_here", "_law_lengths_here", "_law_spans_here", "_law_turn", "_law_one_here"] ["_law_script"] (defScope (top 55)) := ⟨rfl, rfl, rfl, by decide +kernel, rfl, by decide +kernel, by decide +kernel⟩
theorem ok_law {f : Addr} {fd : FuncData} (F : Fun K "law" "law" (top 55) f fd) (F__law_rounds : FnF P w K mg base 1 "_law_rounds" f__law_rounds) (F__law_take : FnF P w K mg base 1 "_law_take" f__law_take) (F__law_moment : FnF P w K mg base 2 "_law_moment" f__law_moment) (F__law_one : FnF P w K mg base 2 "_law_one" f__law_one) (F__law_spans : FnF P w K mg base 3 "_law_spans" f__law_spans) (F__law_row_right : FnF P w K mg base 8 "_law_row_right" f__law_row_right) (F__law_refuses : FnF P w K mg base 10 "_law_refuses" f__law_refuses) (F_counter_row : FnF P w K mg base 7 "counter_row" f_counter_row) (F__law_pool : FrF P w K mg base 1 "_law_pool" f__law_pool) (C_Hours_0 : MkF P w K mg base 6 "Hours" k_Hours_0) (z_range : mg "range" = none) :
    FnOk P w K mg base (L2.CX P w) 11 f fd ["_law_script"] (spF K 1 none (semB g_law 8 none b_law)) :=
  have S := sc_law
  fn_body F S (by decide) fun cdv A outer s H E hr =>
    (ss_cons (st_for (ps_for (passes_of rfl) rfl (i_seq (e_call F__law_rounds rfl (hr.mono (by decide)) (takes_of rfl rfl rfl rfl) rfl (aa_cons (e_v (i := 0) rfl (by first | exact .inl rfl | exact .inr (.inl rfl) | exact .inr (.inr rfl)) (by decide) (by decide)) aa_nil rfl) rfl)) (pg_name (i := 1) S.nd rfl (by first | exact .inl rfl | exact .inr rfl) (by first | exact .inl rfl | exact .inr rfl)) (ss_cons (st_new (ps_set (i := 2) S.nd rfl (by first | exact .inl rfl | exact .inr rfl) (l_call F__law_pool rfl (hr.mono (by decide)) (takes_of rfl rfl rfl rfl) rfl (as_cons (e_v (i := 0) rfl (by first | exact .inl rfl | exact .inr (.inl rfl) | exact .inr (.inr rfl)) (by decide) (by decide)) (as_cons (e_v (i := 1) rfl (by first | exact .inl rfl | exact .inr (.inl rfl) | exact .inr (.inr rfl)) (by decide) (by decide)) as_nil rfl) rfl) rfl) rfl (by first | exact .inl rfl | exact .inr rfl))) (ss_cons (st_asg (st_lc (ps_setLc (i := 3) (own := [("_law_turn", 6)]) rfl S.nd rfl rfl (sw_true rfl rfl rfl (by decide +kernel)) (i_rng1 rfl z_range (e_call F__law_take rfl (hr.mono (by decide)) (takes_of rfl rfl rfl rfl) rfl (aa_cons (e_v (i := 2) rfl (by first | exact .inl rfl | exact .inr (.inl rfl) | exact .inr (.inr rfl)) (by decide) (by decide)) (aa_cons xi aa_nil rfl) rfl) rfl) rfl) (blkOk_by (N := ["_law_script", "_law_k", "_law_source", "_law_arrivals_here", "_law_lengths_here", "_law_spans_here", "_law_turn", "_law_one_here"]) (sc := defScope (top 55)) (by decide +kernel)) (fun _ _ _ _ _ => (pg_name (i := 6) S.nd rfl (by first | exact .inl rfl | exact .inr rfl) (by first | exact .inl rfl | exact .inr rfl))) (fun _ _ _ _ _ => pts_nil) (fun _ _ _ _ _ => (e_call F__law_moment rfl (hr.mono (by decide)) takes0 rfl (aa_cons (e_v (i := 2) rfl (by first | exact .inl rfl | exact .inr (.inl rfl) | exact .inr (.inr rfl)) (by decide) (by decide)) (aa_cons (e_call F__law_one rfl (hr.mono (by decide)) takes0 rfl (aa_cons (e_v (i := 2) rfl (by first | exact .inl rfl | exact .inr (.inl rfl) | exact .inr (.inr rfl)) (by decide) (by decide)) (aa_cons (e_lst (as_cons xi (as_cons xi as_nil rfl) rfl)) aa_nil rfl) rfl) rfl) aa_nil rfl) rfl) rfl)) (fun _ => rfl)))) (ss_cons (st_if (y_gt (e_call F__law_take rfl (hr.mono (by decide)) (takes_of rfl rfl rfl rfl) rfl (aa_cons (e_v (i := 2) rfl (by first | exact .inl rfl | exact .inr (.inl rfl) | exact .inr (.inr rfl)) (by decide) (by decide)) (aa_cons xi aa_nil rfl) rfl) rfl) xi) (ss_cons (st_asg (st_lc (ps_setLc (i := 3) (own := [("_law_one_here", 7)]) rfl S.nd rfl rfl (sw_true rfl rfl rfl (by decide +kernel)) (i_seq (e_v (i := 3) rfl (by first | exact .inl rfl | exact .inr (.inl rfl) | exact .inr (.inr rfl)) (by decide) (by decide))) (blkOk_by (N := ["_law_script", "_law_k", "_law_source", "_law_arrivals_here", "_law_lengths_here", "_law_spans_here", "_law_turn", "_law_one_here"]) (sc := defScope (top 55)) (by decide +kernel)) (fun _ _ _ _ _ => (pg_name (i := 7) S.nd rfl (by first | exact .inl rfl | exact .inr rfl) (by first | exact .inl rfl | exact .inr rfl))) (fun _ _ _ _ _ => pts_nil) (fun _ _ _ _ _ => (e_or (e_v (i := 7) rfl (by first | exact .inl rfl | exact .inr (.inl rfl) | exact .inr (.inr rfl)) (by decide) (by decide)) (pe_one xi))) (fun _ => rfl)))) ss_nil) ss_nil) (ss_cons (st_asg (st_lc (ps_setLc (i := 4) (own := [("_law_one_here", 7)]) rfl S.nd rfl rfl (sw_true rfl rfl rfl (by decide +kernel)) (i_seq (e_v (i := 3) rfl (by first | exact .inl rfl | exact .inr (.inl rfl) | exact .inr (.inr rfl)) (by decide) (by decide))) (blkOk_by (N := ["_law_script", "_law_k", "_law_source", "_law_arrivals_here", "_law_lengths_here", "_law_spans_here", "_law_turn", "_law_one_here"]) (sc := defScope (top 55)) (by decide +kernel)) (fun _ _ _ _ _ => (pg_name (i := 7) S.nd rfl (by first | exact .inl rfl | exact .inr rfl) (by first | exact .inl rfl | exact .inr rfl))) (fun _ _ _ _ _ => pts_nil) (fun _ _ _ _ _ => (e_call F__law_one rfl (hr.mono (by decide)) takes0 rfl (aa_cons (e_v (i := 2) rfl (by first | exact .inl rfl | exact .inr (.inl rfl) | exact .inr (.inr rfl)) (by decide) (by decide)) (aa_cons (e_lst (as_cons xi (as_cons xi (as_cons xi (as_cons xi (as_cons xi as_nil rfl) rfl) rfl) rfl) rfl)) aa_nil rfl) rfl) rfl)) (fun _ => rfl)))) (ss_cons (st_asg (ps_set (i := 5) S.nd rfl (by first | exact .inl rfl | exact .inr rfl) (e_ite (y_eq (hu64 hr) (e_call F__law_take rfl (hr.mono (by decide)) (takes_of rfl rfl rfl rfl) rfl (aa_cons (e_v (i := 2) rfl (by first | exact .inl rfl | exact .inr (.inl rfl) | exact .inr (.inr rfl)) (by decide) (by decide)) (aa_cons xi aa_nil rfl) rfl) rfl) xi) (e_call F__law_spans rfl (hr.mono (by decide)) (takes_of rfl rfl rfl rfl) rfl (aa_cons (e_v (i := 2) rfl (by first | exact .inl rfl | exact .inr (.inl rfl) | exact .inr (.inr rfl)) (by decide) (by decide)) aa_nil rfl) rfl) xn) rfl (by first | exact .inl rfl | exact .inr rfl))) (ss_cons (st_if (t_not (t_truth (e_call F__law_row_right rfl (hr.mono (by decide)) (takes_of rfl rfl rfl rfl) rfl (aa_cons (e_v (i := 3) rfl (by first | exact .inl rfl | exact .inr (.inl rfl) | exact .inr (.inr rfl)) (by decide) (by decide)) (aa_cons (e_v (i := 4) rfl (by first | exact .inl rfl | exact .inr (.inl rfl) | exact .inr (.inr rfl)) (by decide) (by decide)) (aa_cons (x_add xi (e_call F__law_take rfl (hr.mono (by decide)) (takes_of rfl rfl rfl rfl) rfl (aa_cons (e_v (i := 2) rfl (by first | exact .inl rfl | exact .inr (.inl rfl) | exact .inr (.inr rfl)) (by decide) (by decide)) (aa_cons xi aa_nil rfl) rfl) rfl)) (aa_cons (e_v (i := 5) rfl (by first | exact .inl rfl | exact .inr (.inl rfl) | exact .inr (.inr rfl)) (by decide) (by decide)) aa_nil rfl) rfl) rfl) rfl) rfl) (fun _ => rfl))) (ss_cons (st_ret xb) ss_nil) ss_nil) (ss_cons (st_if (t_not (t_truth (e_call F__law_refuses rfl (hr.mono (by decide)) (takes_of rfl rfl rfl rfl) rfl (aa_cons (e_v (i := 2) rfl (by first | exact .inl rfl | exact .inr (.inl rfl) | exact .inr (.inr rfl)) (by decide) (by decide)) aa_nil rfl) rfl) (fun _ => rfl))) (ss_cons (st_ret xb) ss_nil) ss_nil) ss_nil))))))) (fun _ => rfl))) (ss_cons (st_ret (e_and (x_eq (hu64 hr) (e_call F_counter_row rfl (hr.mono (by decide)) (takes_of rfl rfl rfl rfl) rfl (aa_cons (e_lst as_nil) (aa_cons (e_lst as_nil) (aa_cons xi (aa_cons (e_make0 C_Hours_0 rfl (hr.mono (by decide)) (takes_of rfl rfl rfl rfl) rfl) aa_nil rfl) rfl) rfl) rfl) rfl) (e_lst as_nil)) (pe_one (x_eq (hu64 hr) (e_call F_counter_row rfl (hr.mono (by decide)) (takes_of rfl rfl rfl rfl) rfl (aa_cons (e_lst (as_cons xi (as_cons xi as_nil rfl) rfl)) (aa_cons (e_lst (as_cons xi (as_cons xi as_nil rfl) rfl)) (aa_cons xi (aa_cons (e_make0 C_Hours_0 rfl (hr.mono (by decide)) (takes_of rfl rfl rfl rfl) rfl) aa_nil rfl) rfl) rfl) rfl) rfl) (e_lst (as_cons (e_tup (as_cons xi (as_cons xi as_nil rfl) rfl)) (as_cons (e_tup (as_cons xi (as_cons xi as_nil rfl) rfl)) as_nil rfl) rfl)))))) ss_nil))
end
end Mp
set_option maxHeartbeats 4000000
namespace Mp
open PySem L2
variable [TabsW] [GdW]
def dM : Option Nat → D
  | none => .non
  | some n => .int n
theorem s_con (m : Option Nat) : f_is_count_or_never.sem [dM m] = .ok (.bl true) [] := by
  cases m with
  | none => rfl
  | some n =>
    have e : f_is_count_or_never.sem [.int (n : Int)] = .ok (.bl (decide (0 ≤ (n : Int)))) [] := by rfl
    show f_is_count_or_never.sem [.int (n : Int)] = _
    rw [e, decide_eq_true (by omega)]
theorem bools_true : ∀ (n : Nat), boolsD (List.replicate n (D.bl true)) = some (List.replicate n true)
  | 0 => rfl
  | n + 1 => by
    rw [List.replicate_succ]
    unfold boolsD
    rw [bools_true n]
    rfl
theorem all_true (n : Nat) : bltD .all [.lst (List.replicate n (D.bl true))] = some (.bl true) := by
  show (boolsD (List.replicate n (D.bl true))).map (fun bs => D.bl (bs.all id)) = _
  rw [bools_true]
  simp
theorem s_is_listed (ds : List D) : f_is_listed.sem [.lst ds] = .ok (.bl true) [] := by rfl
theorem s_need_minutes (s : D) (ms : List (Option Nat)) (hl : ms.length ≤ BIG) : f_need_minutes.sem [s, .lst (ms.map dM)] = .ok .non [] := by
  have L : ev g_need_minutes (.lc (.name 2) (.seq (.v 1)) none (.call 1 [.v 2]) [2]) [some (.dat s), some (.dat (.lst (ms.map dM))), none] = .ok (.val (.lst (List.replicate ms.length (D.bl true)))) [some (.dat s), some (.dat (.lst (ms.map dM))), none] := by
    have := ev_lc_run (G := g_need_minutes) (i := 2) (it := .seq (.v 1)) (t := none) (e := .call 1 [.v 2]) (env := [some (.dat s), some (.dat (.lst (ms.map dM))), none]) (env0 := [some (.dat s), some (.dat (.lst (ms.map dM))), none]) (ds := ms.map dM) (fun _ => true) (fun _ => .bl true) rfl (by simpa using hl) rfl (by simp) (fun d hd => rfl) (fun d hd _ => by
      obtain ⟨m, _, rfl⟩ := List.mem_map.mp hd
      rw [cl_need_minutes_1]
      show R.take (runF _ (f_is_count_or_never.sem [dM m])) = _
      rw [s_con]
      rfl)
    rw [this]
    congr 3
    rw [List.map_const', List.filter_eq_self.mpr (fun _ _ => rfl), List.length_map]
  show semB g_need_minutes 3 none b_need_minutes [s, .lst (ms.map dM)] = _
  unfold semB b_need_minutes
  simp [evSs, evS, evs, evr, truR, startE, cellsF, cellF, evq_c, evq_v, evq_bin, evq_cmp, evq_chn, evq_and_, evq_or_, evq_not_, evq_neg, evq_ite, evq_tup, evq_lst, evq_ix, evq_blt, evq_isin, R.bind, R.take, R.toS, SR.seq, takeO, rdO, cellAt, content, truD, runF, outE, lift, cl_need_minutes_0, s_is_listed, L, all_true]
theorem sort_nat (ns : List Nat) : sortI (ns.map fun n : Nat => (n : Int)) = ns.mergeSort.map fun n : Nat => (n : Int) := by
  unfold sortI
  refine (List.map_mergeSort (f := fun n : Nat => (n : Int)) fun a _ b _ => ?_).symm
  by_cases h : a ≤ b
  · rw [decide_eq_true h]; exact (decide_eq_true (by omega)).symm
  · rw [decide_eq_false h]; exact (decide_eq_false (by omega)).symm
theorem ints_nat : ∀ (ns : List Nat), intsD (ns.map fun n : Nat => D.int (n : Int)) = some (ns.map fun n : Nat => (n : Int))
  | [] => rfl
  | n :: ns => by
    rw [List.map_cons]
    unfold intsD
    rw [ints_nat ns]
    rfl
theorem sorted_nat (ns : List Nat) : bltD .sorted [.lst (ns.map fun n : Nat => D.int (n : Int))] = some (.lst (ns.mergeSort.map fun n : Nat => D.int (n : Int))) := by
  show (intsD (ns.map fun n : Nat => D.int (n : Int))).map (fun ns => D.lst ((sortI ns).map .int)) = _
  rw [ints_nat, Option.map_some, sort_nat, List.map_map]
  rfl
theorem len_lst (ds : List D) : bltD .len [.lst ds] = some (.int ds.length) := rfl
def notN : D → Bool
  | .non => false
  | _ => true
theorem told_nat : ∀ (ms : List (Option Nat)), ((ms.map dM).filter notN).map (fun d => match d with | .int i => D.int i | d => d) = (ms.filterMap id).map fun n : Nat => D.int (n : Int)
  | [] => rfl
  | none :: ms => by
    rw [List.map_cons, List.filter_cons_of_neg (by decide), told_nat ms]
    rfl
  | some n :: ms => by
    rw [List.map_cons, List.filter_cons_of_pos (by rfl), List.map_cons, told_nat ms]
    rfl
theorem s_nth_least (ms : List (Option Nat)) (n : Nat) (h1 : 1 ≤ n) (hl : ms.length ≤ BIG) : f_nth_least.sem [.lst (ms.map dM), .int n] = .ok (dM (nthM ms n)) [] := by
  have L : ev g_nth_least (.lc (.name 3) (.seq (.v 0)) (some (.cmp .isnot (.v 3) (.c .non))) (.blt .int [.v 3]) [3]) [some (.dat (.lst (ms.map dM))), some (.dat (.int n)), none, none] = .ok (.val (.lst ((ms.filterMap id).map fun n : Nat => D.int (n : Int)))) [some (.dat (.lst (ms.map dM))), some (.dat (.int n)), none, none] := by
    rw [← told_nat]
    exact ev_lc_run (G := g_nth_least) (i := 3) (it := .seq (.v 0)) (t := some (.cmp .isnot (.v 3) (.c .non))) (e := .blt .int [.v 3]) (env := [some (.dat (.lst (ms.map dM))), some (.dat (.int n)), none, none]) (env0 := [some (.dat (.lst (ms.map dM))), some (.dat (.int n)), none, none]) (ds := ms.map dM) notN (fun d => match d with | .int i => D.int i | d => d) rfl (by simpa using hl) rfl (by simp) (fun d hd => by
      obtain ⟨m, _, rfl⟩ := List.mem_map.mp hd
      cases m <;> rfl) (fun d hd hp => by
      obtain ⟨m, _, rfl⟩ := List.mem_map.mp hd
      cases m with
      | none => cases hp
      | some n => rfl)
  show semB g_nth_least 4 none b_nth_least [.lst (ms.map dM), .int n] = _
  unfold semB b_nth_least
  have hS : (ms.filterMap id).mergeSort = srt ms := rfl
  by_cases hn : n ≤ (srt ms).length
  · have hat : atI ((srt ms).map fun n : Nat => D.int (n : Int)) ((n : Int) - 1) = some (dM (nthM ms n)) := by
      unfold atI
      rw [ix_in' (by omega) (by rw [List.length_map]; omega)]
      have e : ((n : Int) - 1).toNat = n - 1 := by omega
      rw [e]
      show ((srt ms).map fun n : Nat => D.int (n : Int))[n - 1]? = _
      rw [List.getElem?_map]
      unfold nthM
      rw [List.getElem?_eq_getElem (by omega)]
      rfl
    have hle : (n : Int) ≤ ((srt ms).length : Int) := by omega
    simp [evSs, evS, evs, evr, truR, startE, cellsF, cellF, evq_c, evq_v, evq_bin, evq_cmp, evq_chn, evq_and_, evq_or_, evq_not_, evq_neg, evq_ite, evq_tup, evq_lst, evq_ix, evq_blt, evq_isin, R.bind, R.take, R.toS, SR.seq, takeO, rdO, cellAt, content, truD, runF, outE, lift, L, sorted_nat, hS, bindT, freeB, len_lst, cmpD, binD, subD, ixD, hat, hle]
  · have hat : nthM ms n = none := by
      unfold nthM
      exact List.getElem?_eq_none (by omega)
    have hle : ¬ (n : Int) ≤ ((srt ms).length : Int) := by omega
    simp [evSs, evS, evs, evr, truR, startE, cellsF, cellF, evq_c, evq_v, evq_bin, evq_cmp, evq_chn, evq_and_, evq_or_, evq_not_, evq_neg, evq_ite, evq_tup, evq_lst, evq_ix, evq_blt, evq_isin, R.bind, R.take, R.toS, SR.seq, takeO, rdO, cellAt, content, truD, runF, outE, lift, L, sorted_nat, hS, bindT, freeB, len_lst, cmpD, binD, subD, ixD, hat, hle, dM]
theorem s_count (n : Nat) : f_is_count.sem [.int n] = .ok (.bl true) [] := by
  have e : f_is_count.sem [.int (n : Int)] = .ok (.bl (decide (0 ≤ (n : Int)))) [] := by rfl
  rw [e, decide_eq_true (by omega)]
theorem s_ncount (n : Nat) : f_need_count.sem [.int n] = .ok .non [] := by
  show semB g_need_count 1 none b_need_count [.int n] = _
  unfold semB b_need_count
  simp [evSs, evS, evs, evr, truR, startE, cellsF, cellF, evq_c, evq_v, evq_bin, evq_cmp, evq_chn, evq_and_, evq_or_, evq_not_, evq_neg, evq_ite, evq_tup, evq_lst, evq_ix, evq_blt, evq_isin, R.bind, R.take, R.toS, SR.seq, takeO, rdO, cellAt, content, truD, runF, outE, lift, cl_need_count_0, s_count]
theorem s_nminute (m : Option Nat) : f_need_minute.sem [dM m] = .ok .non [] := by
  show semB g_need_minute 1 none b_need_minute [dM m] = _
  unfold semB b_need_minute
  simp [evSs, evS, evs, evr, truR, startE, cellsF, cellF, evq_c, evq_v, evq_bin, evq_cmp, evq_chn, evq_and_, evq_or_, evq_not_, evq_neg, evq_ite, evq_tup, evq_lst, evq_ix, evq_blt, evq_isin, R.bind, R.take, R.toS, SR.seq, takeO, rdO, cellAt, content, truD, runF, outE, lift, cl_need_minute_0, s_con]
theorem s_more (m : Option Nat) (n : Nat) : f_minutes_more.sem [dM m, .int n] = .ok (dM (m.map (· + n))) [] := by
  cases m <;> rfl
theorem s_later_by (m : Option Nat) (n : Nat) : f_later_by.sem [dM m, .int n] = .ok (dM (m.map (· + n))) [] := by
  show semB g_later_by 2 none b_later_by [dM m, .int n] = _
  unfold semB b_later_by
  simp [evSs, evS, evs, evr, truR, startE, cellsF, cellF, evq_c, evq_v, evq_bin, evq_cmp, evq_chn, evq_and_, evq_or_, evq_not_, evq_neg, evq_ite, evq_tup, evq_lst, evq_ix, evq_blt, evq_isin, R.bind, R.take, R.toS, SR.seq, takeO, rdO, cellAt, content, truD, runF, outE, lift, cl_later_by_0, cl_later_by_1, cl_later_by_2, s_nminute, s_ncount, s_more]
theorem s_greatest (ms : List (Option Nat)) (hl : ms.length ≤ BIG) : f_greatest.sem [.lst (ms.map dM)] = .ok (dM (greM ms)) [] := by
  show semB g_greatest 1 none b_greatest [.lst (ms.map dM)] = _
  unfold semB b_greatest
  cases ms with
  | nil =>
    have := s_need_minutes (.str "moments") [] hl
    rw [List.map_nil] at this ⊢
    simp [evSs, evS, evs, evr, truR, startE, cellsF, cellF, evq_c, evq_v, evq_bin, evq_cmp, evq_chn, evq_and_, evq_or_, evq_not_, evq_neg, evq_ite, evq_tup, evq_lst, evq_ix, evq_blt, evq_isin, R.bind, R.take, R.toS, SR.seq, takeO, rdO, cellAt, content, truD, runF, outE, lift, cl_greatest_0, this, greM, dM]
  | cons m ms =>
    have h1 := s_need_minutes (.str "moments") (m :: ms) hl
    have h2 := s_nth_least (m :: ms) (m :: ms).length (by simp) hl
    have e : greM (m :: ms) = nthM (m :: ms) (m :: ms).length := by unfold greM; rw [if_neg (by simp)]
    rw [e]
    rw [List.map_cons] at h1 h2 ⊢
    have h3 : f_nth_least.sem [D.lst (dM m :: ms.map dM), D.int ((ms.length : Int) + 1)] = .ok (dM (nthM (m :: ms) (ms.length + 1))) [] := h2
    simp only [List.length_cons] at ⊢
    simp [evSs, evS, evs, evr, truR, startE, cellsF, cellF, evq_c, evq_v, evq_bin, evq_cmp, evq_chn, evq_and_, evq_or_, evq_not_, evq_neg, evq_ite, evq_tup, evq_lst, evq_ix, evq_blt, evq_isin, R.bind, R.take, R.toS, SR.seq, takeO, rdO, cellAt, content, truD, runF, outE, lift, cl_greatest_0, cl_greatest_1, h1, len_lst, h3]
theorem s_desks (k : Nat) (h1 : 1 ≤ k) (h3 : k ≤ 3) : f_need_desks.sem [.int k] = .ok .non [] := by
  have : k = 1 ∨ k = 2 ∨ k = 3 := by omega
  rcases this with rfl | rfl | rfl <;> rfl
theorem s_desk_free (es : List (Option Nat)) (k : Nat) (h1 : 1 ≤ k) (h3 : k ≤ 3) (hl : es.length ≤ BIG) : f_desk_free.sem [.lst (es.map dM), .int k] = .ok (dM (deskM es k)) [] := by
  have q1 := s_need_minutes (.str "ends") es hl
  have q2 := s_desks k h1 h3
  show semB g_desk_free 2 none b_desk_free [.lst (es.map dM), .int k] = _
  unfold semB b_desk_free
  by_cases h : es.length < k
  · have e : deskM es k = some 0 := by unfold deskM; rw [if_pos h]
    rw [e]
    simp [evSs, evS, evs, evr, truR, startE, cellsF, cellF, evq_c, evq_v, evq_bin, evq_cmp, evq_chn, evq_and_, evq_or_, evq_not_, evq_neg, evq_ite, evq_tup, evq_lst, evq_ix, evq_blt, evq_isin, R.bind, R.take, R.toS, SR.seq, takeO, rdO, cellAt, content, truD, runF, outE, lift, cl_desk_free_0, cl_desk_free_1, q1, q2, len_lst, cmpD, h, dM]
  · have e : deskM es k = nthM es (es.length - k + 1) := by unfold deskM; rw [if_neg h]
    have q3 := s_nth_least es (es.length - k + 1) (by omega) hl
    have c : ((es.length - k + 1 : Nat) : Int) = (es.length : Int) - (k : Int) + 1 := by omega
    rw [c] at q3
    rw [e]
    simp [evSs, evS, evs, evr, truR, startE, cellsF, cellF, evq_c, evq_v, evq_bin, evq_cmp, evq_chn, evq_and_, evq_or_, evq_not_, evq_neg, evq_ite, evq_tup, evq_lst, evq_ix, evq_blt, evq_isin, R.bind, R.take, R.toS, SR.seq, takeO, rdO, cellAt, content, truD, runF, outE, lift, cl_desk_free_0, cl_desk_free_1, cl_desk_free_2, q1, q2, len_lst, cmpD, binD, addD, subD, h, q3]
/-- spans as they are told -/
def dS : List (Nat × Nat) → List D := fun ss => ss.map fun s => .tup [.int s.1, .int s.2]
theorem max_nat (a b : Nat) : bltD .max2 [.int (a : Int), .int (b : Int)] = some (.int ((max a b : Nat) : Int)) := by
  show some (D.int (if (b : Int) > (a : Int) then (b : Int) else (a : Int))) = _
  congr 2
  split <;> omega
def bGate : List ST := [.if_ (.cmp .le (.bin .add (.blt .max2 [.blt .int [.v 3], .v 2]) (.v 1)) (.v 4)) [.ret (.blt .max2 [.blt .int [.v 3], .v 2])] []]
theorem gate_body (L : D) (n t a b : Nat) : evSs g_gate_of bGate [some (.dat L), some (.dat (.int n)), some (.dat (.int t)), some (.dat (.int a)), some (.dat (.int b))] =
    if max a t + n ≤ b then .rt (.int ((max a t : Nat) : Int)) [some (.dat L), some (.dat (.int n)), some (.dat (.int t)), some (.dat (.int a)), some (.dat (.int b))] else .nx [some (.dat L), some (.dat (.int n)), some (.dat (.int t)), some (.dat (.int a)), some (.dat (.int b))] := by
  have ei : bltD .int [.int (a : Int)] = some (.int (a : Int)) := rfl
  unfold bGate
  by_cases h : max a t + n ≤ b
  · have hc : (((max a t : Nat) : Int) + (n : Int) ≤ (b : Int)) := by omega
    rw [if_pos h]
    simp only [evSs, evS, evs, evr, truR, evq_v, evq_bin, evq_cmp, evq_blt, R.bind, R.take, R.toS, SR.seq, takeO, rdO, cellAt, content, truD, lift, binD, addD, cmpD, List.mapM_cons, List.mapM_nil]
    simp [ei, max_nat, hc, R.bind, R.toS, SR.seq, lift, cmpD, rdO, truD, takeO, addD]
  · have hc : ¬ (((max a t : Nat) : Int) + (n : Int) ≤ (b : Int)) := by omega
    rw [if_neg h]
    simp only [evSs, evS, evs, evr, truR, evq_v, evq_bin, evq_cmp, evq_blt, R.bind, R.take, R.toS, SR.seq, takeO, rdO, cellAt, content, truD, lift, binD, addD, cmpD, List.mapM_cons, List.mapM_nil]
    simp [ei, max_nat, hc, R.bind, R.toS, SR.seq, lift, cmpD, rdO, truD, takeO, addD]
theorem gate_loop (L : D) (n t : Nat) : ∀ (ss : List (Nat × Nat)) (x y : Option Cell), freeB [some (.dat L), some (.dat (.int n)), some (.dat (.int t)), x, y] 3 = true → freeB [some (.dat L), some (.dat (.int n)), some (.dat (.int t)), x, y] 4 = true →
    (∃ e, gateL n t ss = none ∧ forL (.tup [3, 4]) (fun e => evSs g_gate_of bGate e) (dS ss) [some (.dat L), some (.dat (.int n)), some (.dat (.int t)), x, y] = .nx e) ∨
    (∃ g e, gateL n t ss = some g ∧ forL (.tup [3, 4]) (fun e => evSs g_gate_of bGate e) (dS ss) [some (.dat L), some (.dat (.int n)), some (.dat (.int t)), x, y] = .rt (.int (g : Nat)) e)
  | [], x, y, _, _ => .inl ⟨_, rfl, rfl⟩
  | s :: ss, x, y, h3, h4 => by
    have hb : bindT (.tup [3, 4]) (.tup [.int s.1, .int s.2]) [some (.dat L), some (.dat (.int n)), some (.dat (.int t)), x, y] = some [some (.dat L), some (.dat (.int n)), some (.dat (.int t)), some (.dat (.int s.1)), some (.dat (.int s.2))] := by
      unfold bindT
      dsimp only
      rw [if_pos ⟨rfl, by simp [h3, h4]⟩]
      rfl
    have e1 : forL (.tup [3, 4]) (fun e => evSs g_gate_of bGate e) (dS (s :: ss)) [some (.dat L), some (.dat (.int n)), some (.dat (.int t)), x, y] =
        (if max s.1 t + n ≤ s.2 then .rt (.int ((max s.1 t : Nat) : Int)) [some (.dat L), some (.dat (.int n)), some (.dat (.int t)), some (.dat (.int s.1)), some (.dat (.int s.2))] else
          forL (.tup [3, 4]) (fun e => evSs g_gate_of bGate e) (dS ss) [some (.dat L), some (.dat (.int n)), some (.dat (.int t)), some (.dat (.int s.1)), some (.dat (.int s.2))]) := by
      show forL _ _ (D.tup [.int s.1, .int s.2] :: dS ss) _ = _
      rw [forL, hb]
      dsimp only
      rw [gate_body]
      by_cases h : max s.1 t + n ≤ s.2
      · rw [if_pos h, if_pos h]
      · rw [if_neg h, if_neg h]
    rw [e1]
    unfold gateL
    by_cases h : max s.1 t + n ≤ s.2
    · rw [if_pos h, if_pos h]
      exact .inr ⟨_, _, rfl, rfl⟩
    · rw [if_neg h, if_neg h]
      exact gate_loop L n t ss _ _ rfl rfl
def dSp : Option (List (Nat × Nat)) → D
  | none => .non
  | some ss => .tup (dS ss)
theorem s_gate_of (ss : Option (List (Nat × Nat))) (n : Nat) (t : Option Nat) : f_gate_of.sem [dSp ss, .int n, dM t] = .ok (dM (gateM ss n t)) [] := by
  show semB g_gate_of 5 none b_gate_of [dSp ss, .int n, dM t] = _
  unfold semB b_gate_of
  cases t with
  | none =>
    cases ss <;> simp [evSs, evS, evs, evr, truR, startE, cellsF, cellF, evq_c, evq_v, evq_bin, evq_cmp, evq_chn, evq_and_, evq_or_, evq_not_, evq_neg, evq_ite, evq_tup, evq_lst, evq_ix, evq_blt, evq_isin, R.bind, R.take, R.toS, SR.seq, takeO, rdO, cellAt, content, truD, runF, outE, lift, dM, dSp, cmpD, isNon, gateM]
  | some t =>
    cases ss with
    | none => simp [evSs, evS, evs, evr, truR, startE, cellsF, cellF, evq_c, evq_v, evq_bin, evq_cmp, evq_chn, evq_and_, evq_or_, evq_not_, evq_neg, evq_ite, evq_tup, evq_lst, evq_ix, evq_blt, evq_isin, R.bind, R.take, R.toS, SR.seq, takeO, rdO, cellAt, content, truD, runF, outE, lift, dM, dSp, cmpD, isNon, gateM]
    | some ss =>
      have F : evS g_gate_of (.for_ (.tup [3, 4]) (.seq (.v 0)) bGate) [some (.dat (.tup (dS ss))), some (.dat (.int n)), some (.dat (.int t)), none, none] = forL (.tup [3, 4]) (fun e => evSs g_gate_of bGate e) (dS ss) [some (.dat (.tup (dS ss))), some (.dat (.int n)), some (.dat (.int t)), none, none] := by
        rw [evS]
        rfl
      have I : evS g_gate_of (.if_ (.or_ (.cmp .is_ (.v 2) (.c .non)) (.cmp .is_ (.v 0) (.c .non))) [.ret (.v 2)] []) [some (.dat (.tup (dS ss))), some (.dat (.int n)), some (.dat (.int t)), none, none] = .nx [some (.dat (.tup (dS ss))), some (.dat (.int n)), some (.dat (.int t)), none, none] := by
        simp [evSs, evS, evs, evr, truR, startE, cellsF, cellF, evq_c, evq_v, evq_bin, evq_cmp, evq_chn, evq_and_, evq_or_, evq_not_, evq_neg, evq_ite, evq_tup, evq_lst, evq_ix, evq_blt, evq_isin, R.bind, R.take, R.toS, SR.seq, takeO, rdO, cellAt, content, truD, runF, outE, lift, cmpD, isNon]
      have B : evSs g_gate_of [.if_ (.or_ (.cmp .is_ (.v 2) (.c .non)) (.cmp .is_ (.v 0) (.c .non))) [.ret (.v 2)] [], .for_ (.tup [3, 4]) (.seq (.v 0)) bGate, .ret (.c .non)] [some (.dat (.tup (dS ss))), some (.dat (.int n)), some (.dat (.int t)), none, none] = (forL (.tup [3, 4]) (fun e => evSs g_gate_of bGate e) (dS ss) [some (.dat (.tup (dS ss))), some (.dat (.int n)), some (.dat (.int t)), none, none]).seq fun e => .rt .non e := by
        rw [evSs, I]
        show evSs g_gate_of [.for_ (.tup [3, 4]) (.seq (.v 0)) bGate, .ret (.c .non)] _ = _
        rw [evSs, F]
        congr 1
      show (match evSs g_gate_of [.if_ (.or_ (.cmp .is_ (.v 2) (.c .non)) (.cmp .is_ (.v 0) (.c .non))) [.ret (.v 2)] [], .for_ (.tup [3, 4]) (.seq (.v 0)) bGate, .ret (.c .non)] [some (.dat (.tup (dS ss))), some (.dat (.int n)), some (.dat (.int t)), none, none] with
        | .rt d e => (match outE none e with | some out => FR.ok d out | none => .bad)
        | .nx e => (match outE none e with | some out => FR.ok .non out | none => .bad)
        | .rl ds e => (match outE none e with | some out => FR.ok (.lst ds) out | none => .bad)
        | .exc C f d e => (match outE none e with | some out => FR.exc C f d out | none => .bad)
        | _ => .bad) = _
      rw [B]
      show _ = FR.ok (dM (gateL n t ss)) []
      rcases gate_loop (.tup (dS ss)) n t ss none none rfl rfl with ⟨e, h1, h2⟩ | ⟨g, e, h1, h2⟩
      · rw [h2, h1]; rfl
      · rw [h2, h1]; rfl
end Mp
set_option maxHeartbeats 4000000
namespace Mp
open PySem L2
variable [TabsW] [GdW]
def dNs (ns : List Nat) : List D := ns.map fun n : Nat => D.int (n : Int)
def dP (p : Option Nat × Option Nat) : D := .tup [dM p.1, dM p.2]
def dH (o : Option (List (Nat × Nat))) : D := .obj "Hours" ["_spans"] [dSp o]
theorem s_whole (n : Nat) : f_is_whole.sem [.int n] = .ok (.bl true) [] := by rfl
theorem s_need_hours (o) : f_need_hours.sem [dH o] = .ok .non [] := by rfl
theorem s_gate (o) (n : Nat) (t : Option Nat) : m_Hours_gate.sem [dH o, .int n, dM t] = .ok (dM (gateM o n t)) [] := by
  have q1 := s_ncount n
  have q2 := s_nminute t
  have q3 := s_gate_of o n t
  show semB g_Hours_gate 3 none b_Hours_gate [dH o, .int n, dM t] = _
  unfold semB b_Hours_gate
  have F (x y : Option Cell) : ev g_Hours_gate (.fld (.v 0) "_spans") [some (.dat (dH o)), x, y] = .ok (.val (dSp o)) [some (.dat (dH o)), x, y] := by rfl
  simp [evSs, evS, evs, evr, truR, startE, cellsF, cellF, evq_c, evq_v, evq_bin, evq_cmp, evq_chn, evq_and_, evq_or_, evq_not_, evq_neg, evq_ite, evq_tup, evq_lst, evq_ix, evq_blt, evq_isin, R.bind, R.take, R.toS, SR.seq, takeO, rdO, cellAt, content, truD, runF, outE, lift, cl_Hours_gate_0, cl_Hours_gate_1, cl_Hours_gate_2, q1, q2, q3, F]
theorem s_counter_begin (a b : Option Nat) (es : List (Option Nat)) (k : Nat) (o) (n : Nat) (h1 : 1 ≤ k) (h3 : k ≤ 3) (hl : es.length ≤ BIG) :
    f_counter_begin.sem [dM a, dM b, .lst (es.map dM), .int k, dH o, .int n] = .ok (dM (gateM o n (greM [a, b, deskM es k]))) [] := by
  have q1 := s_nminute a
  have q2 := s_nminute b
  have q3 := s_need_minutes (.str "ends") es hl
  have q4 := s_desks k h1 h3
  have q5 := s_need_hours o
  have q6 := s_ncount n
  have q7 := s_desk_free es k h1 h3 hl
  have q8 : f_greatest.sem [.lst [dM a, dM b, dM (deskM es k)]] = _ := s_greatest [a, b, deskM es k] (by show 3 ≤ BIG; decide)
  have q9 := s_gate o n (greM [a, b, deskM es k])
  have hd : dH o = .obj "Hours" ["_spans"] [dSp o] := rfl
  show semB g_counter_begin 6 none b_counter_begin [dM a, dM b, .lst (es.map dM), .int k, dH o, .int n] = _
  unfold semB b_counter_begin
  have M : ev g_counter_begin (.meth 0 (.v 4) [.v 5, .call 5 [.lst [.v 0, .v 1, .call 6 [.v 2, .v 3]]]]) [some (.dat (dM a)), some (.dat (dM b)), some (.dat (.lst (es.map dM))), some (.dat (.int k)), some (.dat (dH o)), some (.dat (.int n))] = .ok (.val (dM (gateM o n (greM [a, b, deskM es k])))) [some (.dat (dM a)), some (.dat (dM b)), some (.dat (.lst (es.map dM))), some (.dat (.int k)), some (.dat (dH o)), some (.dat (.int n))] := by
    rw [evq_meth]
    rw [hd] at q9 ⊢
    have c1 : g_counter_begin.mts[0]? = some m_Hours_gate := rfl
    have c2 : m_Hours_gate.C = "Hours" := rfl
    have c3 : m_Hours_gate.n = 3 := rfl
    have c4 : (["_spans"] : List Str).contains m_Hours_gate.name = false := rfl
    rw [c1]
    simp only [evs, evq_v, R.bind, R.take, cellAt, List.getElem?_cons_succ, List.getElem?_cons_zero, Option.join_some, takeO]
    rw [if_pos ⟨c2.symm, by rw [c3]; rfl, c4⟩]
    simp [evSs, evS, evs, evr, truR, startE, cellsF, cellF, evq_c, evq_v, evq_bin, evq_cmp, evq_chn, evq_and_, evq_or_, evq_not_, evq_neg, evq_ite, evq_tup, evq_lst, evq_ix, evq_blt, evq_isin, R.bind, R.take, R.toS, SR.seq, takeO, rdO, cellAt, content, truD, runF, outE, lift, cl_counter_begin_5, cl_counter_begin_6, q7, q8, q9, BIG, frR]
  simp [evSs, evS, evs, evr, truR, startE, cellsF, cellF, evq_c, evq_v, evq_bin, evq_cmp, evq_chn, evq_and_, evq_or_, evq_not_, evq_neg, evq_ite, evq_tup, evq_lst, evq_ix, evq_blt, evq_isin, R.bind, R.take, R.toS, SR.seq, takeO, rdO, cellAt, content, truD, runF, outE, lift, cl_counter_begin_0, cl_counter_begin_1, cl_counter_begin_2, cl_counter_begin_3, cl_counter_begin_4, q1, q2, q3, q4, q5, q6, M]
end Mp
set_option maxHeartbeats 4000000
namespace Mp
open PySem L2
variable [TabsW] [GdW]
/-- a slot's content that may be overwritten -/
def frC : Option Cell → Bool
  | some (.io _) => false
  | some (.slf _ _ _) => false
  | _ => true
theorem freeB_eq (env : Env) (i : Nat) : freeB env i = match env[i]? with
    | some x => frC x
    | none => false := by
  unfold freeB
  cases env[i]? with
  | none => rfl
  | some x => cases x with
    | none => rfl
    | some c => cases c <;> rfl
@[simp] theorem frC_none : frC none = true := rfl
@[simp] theorem frC_dat (d) : frC (some (.dat d)) = true := rfl
@[simp] theorem frC_own (d) : frC (some (.own d)) = true := rfl
theorem last_at {α} (ds : List α) (h : ds ≠ []) : atI ds (-1) = ds.getLast? := by
  have hl : 0 < ds.length := List.length_pos_iff.mpr h
  unfold atI ixN
  rw [if_neg (by omega), if_pos (by omega), List.getLast?_eq_getElem?]
  show ds[((-1 : Int) + (ds.length : Int)).toNat]? = _
  congr 1; omega
theorem last_row (r : Row) (h : r ≠ []) : ∃ p, r.getLast? = some p ∧ atI (r.map dP) (-1) = some (dP p) := by
  obtain ⟨p, hp⟩ : ∃ p, r.getLast? = some p := by
    cases hh : r.getLast? with
    | none => exact absurd (List.getLast?_eq_none_iff.mp hh) h
    | some p => exact ⟨p, rfl⟩
  refine ⟨p, hp, ?_⟩
  rw [last_at _ (by simpa using h), List.getLast?_map, hp]
  rfl
theorem s_lengths (ns : List Nat) (hl : ns.length ≤ BIG) : f_need_lengths.sem [.lst (dNs ns), .int ns.length] = .ok .non [] := by
  have L : ev g_need_lengths (.lc (.name 2) (.seq (.v 0)) none (.call 1 [.v 2]) [2]) [some (.dat (.lst (dNs ns))), some (.dat (.int ns.length)), none] = .ok (.val (.lst (List.replicate ns.length (D.bl true)))) [some (.dat (.lst (dNs ns))), some (.dat (.int ns.length)), none] := by
    have := ev_lc_run (G := g_need_lengths) (i := 2) (it := .seq (.v 0)) (t := none) (e := .call 1 [.v 2]) (env := [some (.dat (.lst (dNs ns))), some (.dat (.int ns.length)), none]) (env0 := [some (.dat (.lst (dNs ns))), some (.dat (.int ns.length)), none]) (ds := dNs ns) (fun _ => true) (fun _ => .bl true) rfl (by simpa [dNs] using hl) rfl (by simp) (fun d hd => rfl) (fun d hd _ => by
      obtain ⟨m, _, rfl⟩ := List.mem_map.mp hd
      rw [cl_need_lengths_1]
      show R.take (runF _ (f_is_count.sem [.int m])) = _
      rw [s_count]
      rfl)
    rw [this]
    congr 3
    rw [List.map_const', List.filter_eq_self.mpr (fun _ _ => rfl)]
    simp [dNs]
  have hlen : (dNs ns).length = ns.length := by simp [dNs]
  have hd : cmpD .ne (.int (ns.length : Int)) (.int (ns.length : Int)) = some false := by simp [cmpD, dataD, eqD]
  show semB g_need_lengths 3 none b_need_lengths [.lst (dNs ns), .int ns.length] = _
  unfold semB b_need_lengths
  simp [evSs, evS, evs, evr, truR, startE, cellsF, cellF, evq_c, evq_v, evq_bin, evq_cmp, evq_chn, evq_and_, evq_or_, evq_not_, evq_neg, evq_ite, evq_tup, evq_lst, evq_ix, evq_blt, evq_isin, R.bind, R.take, R.toS, SR.seq, takeO, rdO, cellAt, content, truD, runF, outE, lift, cl_need_lengths_0, s_is_listed, L, all_true, len_lst, hlen, hd]
end Mp
set_option maxHeartbeats 4000000
namespace Mp
open PySem L2
variable [TabsW] [GdW]
def bCR : List ST := [.asg (.name 7) (.ite (.v 4) (.ix (.ix (.v 4) (.neg (.c (.int 1)))) (.c (.int 0))) (.c (.int 0))), .asg (.name 8) (.call 4 [.v 5, .v 7, .lcf (.tup [9, 10]) 4 none (.v 10) [9, 10], .v 2, .v 3, .v 6]), .expr (.app 4 (.tup [.v 8, .call 5 [.v 8, .v 6]]))]
section
variable (A B K H : D) (r : Row) (a b : Option Nat) (n : Nat)
def envC (x5 x6 x7 x8 : Option Cell) : Env := [some (.dat A), some (.dat B), some (.dat K), some (.dat H), some (.own (r.map dP)), x5, x6, x7, x8, none, none]
theorem cr_ahead (x7 x8 : Option Cell) : ev g_counter_row (.ite (.v 4) (.ix (.ix (.v 4) (.neg (.c (.int 1)))) (.c (.int 0))) (.c (.int 0))) (envC A B K H r (some (.dat (dM a))) (some (.dat (.int n))) x7 x8) = .ok (.val (dM (aheadM r))) (envC A B K H r (some (.dat (dM a))) (some (.dat (.int n))) x7 x8) := by
  unfold envC
  by_cases h : r = []
  · subst h
    simp [evSs, evS, evs, evr, truR, startE, cellsF, cellF, evq_c, evq_v, evq_bin, evq_cmp, evq_chn, evq_and_, evq_or_, evq_not_, evq_neg, evq_ite, evq_tup, evq_lst, evq_ix, evq_blt, evq_isin, R.bind, R.take, R.toS, SR.seq, takeO, rdO, cellAt, content, truD, runF, outE, lift, aheadM, dM]
  · obtain ⟨p, h1, h2⟩ := last_row r h
    have h3 : r.isEmpty = false := by cases r with
      | nil => exact absurd rfl h
      | cons _ _ => rfl
    have e : aheadM r = p.1 := by unfold aheadM; rw [h1]
    have h4 : atI [dM p.1, dM p.2] 0 = some (dM p.1) := rfl
    rw [e]
    simp [evSs, evS, evs, evr, truR, startE, cellsF, cellF, evq_c, evq_v, evq_bin, evq_cmp, evq_chn, evq_and_, evq_or_, evq_not_, evq_neg, evq_ite, evq_tup, evq_lst, evq_ix, evq_blt, evq_isin, R.bind, R.take, R.toS, SR.seq, takeO, rdO, cellAt, content, truD, runF, outE, lift, h3, ixD, h2, dP, h4]
theorem cr_ends (x5 x6 x7 x8 : Option Cell) (hl : r.length ≤ BIG) : ev g_counter_row (.lcf (.tup [9, 10]) 4 none (.v 10) [9, 10]) (envC A B K H r x5 x6 x7 x8) = .ok (.val (.lst ((r.map (·.2)).map dM))) (envC A B K H r x5 x6 x7 x8) := by
  obtain ⟨xs, h1, h2⟩ := ev_lcf_rel (G := g_counter_row) (own := [9, 10]) (tg := .tup [9, 10]) (i := 4) (t := none) (e := .v 10) (env := envC A B K H r x5 x6 x7 x8) (ds := r.map dP)
    (fun e => ∃ u v, frC u = true ∧ frC v = true ∧ e = [some (.dat A), some (.dat B), some (.dat K), some (.dat H), none, x5, x6, x7, x8, u, v]) (fun _ => False) (fun d x => ∃ p, d = dP p ∧ x = dM p.2) rfl (by simpa using hl) rfl rfl ⟨none, none, rfl, rfl, rfl⟩
    (fun d hd env hI => by
      obtain ⟨p, _, rfl⟩ := List.mem_map.mp hd
      obtain ⟨u, v, hu, hv, rfl⟩ := hI
      refine ⟨[some (.dat A), some (.dat B), some (.dat K), some (.dat H), none, x5, x6, x7, x8, some (.dat (dM p.1)), some (.dat (dM p.2))], rfl, .inr ⟨_, dM p.2, _, rfl, rfl, ⟨_, _, rfl, rfl, rfl⟩, p, rfl, rfl⟩⟩)
    (fun env' hI => by
      obtain ⟨u, v, hu, hv, rfl⟩ := hI
      rfl)
  rw [h1]
  have e : xs = (r.map (·.2)).map dM := by
    clear h1
    generalize hds : r.map dP = ds at h2
    clear hl
    induction h2 generalizing r with
    | nil => cases r with
      | nil => rfl
      | cons _ _ => cases hds
    | skip h _ _ => exact h.elim
    | take h _ ih => cases r with
      | nil => cases hds
      | cons p r =>
        obtain ⟨q, e1, e2⟩ := h
        cases hds
        have e3 : dM p.2 = dM q.2 := by
          have := D.tup.inj e1
          exact (List.cons.inj (List.cons.inj this).2).1
        rw [e2, ih r rfl, ← e3]; rfl
  rw [e]
theorem cr_turn (o) (k : Nat) (h1 : 1 ≤ k) (h3 : k ≤ 3) (hl : r.length < BIG) (x7 x8 : Option Cell) (h7 : frC x7 = true) (h8 : frC x8 = true) :
    evSs g_counter_row bCR (envC A B (.int k) (dH o) r (some (.dat (dM a))) (some (.dat (.int n))) x7 x8) =
      .nx (envC A B (.int k) (dH o) (cstep o k r (a, n)) (some (.dat (dM a))) (some (.dat (.int n))) (some (.dat (dM (aheadM r)))) (some (.dat (dM (gateM o n (greM [a, aheadM r, deskM (r.map (·.2)) k])))))) := by
  have q1 := cr_ahead A B (.int k) (dH o) r a n x7 x8
  have q2 := cr_ends A B (.int k) (dH o) r (some (.dat (dM a))) (some (.dat (.int n))) (some (.dat (dM (aheadM r)))) x8 (by omega)
  have q3 := s_counter_begin a (aheadM r) (r.map (·.2)) k o n h1 h3 (by simpa using Nat.le_of_lt hl)
  have q4 := s_later_by (gateM o n (greM [a, aheadM r, deskM (r.map (·.2)) k])) n
  have hb : 2 ≤ BIG := by decide
  unfold bCR
  unfold cstep
  unfold envC at q1 q2 ⊢
  dsimp only at q1 q2 q3 q4 ⊢
  generalize r.map (·.2) = es at q1 q2 q3 q4 ⊢
  simp [evSs, evS, evs, evr, truR, startE, cellsF, cellF, evq_c, evq_v, evq_bin, evq_cmp, evq_chn, evq_and_, evq_or_, evq_not_, evq_neg, evq_ite, evq_tup, evq_lst, evq_ix, evq_blt, evq_isin, R.bind, R.take, R.toS, SR.seq, takeO, rdO, cellAt, content, truD, runF, outE, lift, q1, cl_counter_row_4, cl_counter_row_5, q2, q3, q4, bindT, freeB_eq, h7, h8, evq_app, ownB, hl, hb, dP]
theorem counter_loop (o) (k : Nat) (h1 : 1 ≤ k) (h3 : k ≤ 3) : ∀ (xs : List (Option Nat × Nat)) (r : Row) (x5 x6 x7 x8 : Option Cell), r.length + xs.length ≤ BIG → frC x5 = true → frC x6 = true → frC x7 = true → frC x8 = true →
    ∃ y5 y6 y7 y8, forL (.tup [5, 6]) (fun e => evSs g_counter_row bCR e) (xs.map fun p => .tup [dM p.1, .int p.2]) (envC A B (.int k) (dH o) r x5 x6 x7 x8) = .nx (envC A B (.int k) (dH o) (xs.foldl (cstep o k) r) y5 y6 y7 y8)
  | [], r, x5, x6, x7, x8, _, _, _, _, _ => ⟨x5, x6, x7, x8, rfl⟩
  | (a, n) :: xs, r, x5, x6, x7, x8, hl, h5, h6, h7, h8 => by
    obtain ⟨y5, y6, y7, y8, h⟩ := counter_loop o k h1 h3 xs (cstep o k r (a, n)) (some (.dat (dM a))) (some (.dat (.int n))) (some (.dat (dM (aheadM r)))) (some (.dat (dM (gateM o n (greM [a, aheadM r, deskM (r.map (·.2)) k]))))) (by unfold cstep; simp at hl ⊢; omega) rfl rfl rfl rfl
    refine ⟨y5, y6, y7, y8, ?_⟩
    have hb : bindT (.tup [5, 6]) (.tup [dM a, .int n]) (envC A B (.int k) (dH o) r x5 x6 x7 x8) = some (envC A B (.int k) (dH o) r (some (.dat (dM a))) (some (.dat (.int n))) x7 x8) := by
      unfold bindT envC
      simp [freeB_eq, h5, h6]
    rw [List.map_cons, forL, hb]
    dsimp only
    rw [cr_turn A B r a n o k h1 h3 (by simp at hl; omega) x7 x8 h7 h8]
    exact h
theorem zip_rows : ∀ (as : List (Option Nat)) (ns : List Nat), zipD (as.map dM) (dNs ns) = (as.zip ns).map fun p => D.tup [dM p.1, .int p.2]
  | [], ns => by simp [zipD]
  | a :: as, [] => by simp [zipD, dNs]
  | a :: as, n :: ns => by
    have := zip_rows as ns
    unfold dNs at this ⊢
    rw [List.map_cons, List.map_cons, zipD, this]
    rfl
def dR (r : Row) : D := .lst (r.map dP)
theorem s_counter_row (as : List (Option Nat)) (ns : List Nat) (hn : ns.length = as.length) (o) (k : Nat) (h1 : 1 ≤ k) (h3 : k ≤ 3) (hl : as.length ≤ BIG) :
    f_counter_row.sem [.lst (as.map dM), .lst (dNs ns), .int k, dH o] = .ok (dR (counterM o k as ns)) [] := by
  have q1 := s_need_minutes (.str "arrivals") as hl
  have q2 := s_lengths ns (by omega)
  rw [hn] at q2
  have q3 := s_desks k h1 h3
  have q4 := s_need_hours o
  have hlen : (as.map dM).length = as.length := by simp
  obtain ⟨y5, y6, y7, y8, hf⟩ := counter_loop (.lst (as.map dM)) (.lst (dNs ns)) o k h1 h3 (as.zip ns) [] none none none none (by simp; omega) rfl rfl rfl rfl
  have e : evi g_counter_row (.zip (.v 0) (.v 1)) (envC (.lst (as.map dM)) (.lst (dNs ns)) (.int k) (dH o) [] none none none none) = .ok ((as.zip ns).map fun p => D.tup [dM p.1, .int p.2]) (envC (.lst (as.map dM)) (.lst (dNs ns)) (.int k) (dH o) [] none none none none) := by
    rw [← zip_rows]; rfl
  generalize (as.zip ns).map (fun p => D.tup [dM p.1, .int p.2]) = zs at e hf
  have hc : (as.zip ns).foldl (cstep o k) [] = counterM o k as ns := rfl
  rw [hc] at hf
  unfold envC at e hf
  rw [List.map_nil] at e hf
  show semB g_counter_row 11 none b_counter_row [.lst (as.map dM), .lst (dNs ns), .int k, dH o] = _
  have e0 : b_counter_row = [.expr (.call 0 [.c (.str "arrivals"), .v 0]), .expr (.call 1 [.v 1, .blt .len [.v 0]]), .expr (.call 2 [.v 2]), .expr (.call 3 [.v 3]), .new 4 (.lst []), .for_ (.tup [5, 6]) (.zip (.v 0) (.v 1)) bCR, .ret (.v 4)] := rfl
  unfold semB
  rw [e0]
  simp [evSs, evS, evs, evr, truR, startE, cellsF, cellF, evq_c, evq_v, evq_bin, evq_cmp, evq_chn, evq_and_, evq_or_, evq_not_, evq_neg, evq_ite, evq_tup, evq_lst, evq_ix, evq_blt, evq_isin, R.bind, R.take, R.toS, SR.seq, takeO, rdO, cellAt, content, truD, runF, outE, lift, cl_counter_row_0, cl_counter_row_1, cl_counter_row_2, cl_counter_row_3, q1, q2, q3, q4, len_lst, hlen, evL, freeB_eq, e, hf]
  rfl
end
end Mp
set_option maxHeartbeats 4000000
namespace Mp
open PySem L2
variable [TabsW] [GdW]
theorem s_between (n lo hi : Nat) (h1 : lo ≤ n) (h2 : n ≤ hi) : f_is_between.sem [.int n, .int lo, .int hi] = .ok (.bl true) [] := by
  have c1 : decide ((lo : Int) ≤ (n : Int)) = true := decide_eq_true (by omega)
  have c2 : decide ((n : Int) ≤ (hi : Int)) = true := decide_eq_true (by omega)
  have q := s_whole n
  show semB g_is_between 3 none b_is_between [.int n, .int lo, .int hi] = _
  unfold semB b_is_between
  simp [evSs, evS, evs, evr, truR, startE, cellsF, cellF, evq_c, evq_v, evq_bin, evq_cmp, evq_chn, evq_and_, evq_or_, evq_not_, evq_neg, evq_ite, evq_tup, evq_lst, evq_ix, evq_blt, evq_isin, R.bind, R.take, R.toS, SR.seq, takeO, rdO, cellAt, content, truD, runF, outE, lift, cl_is_between_0, q, cmpD, c1, c2, h1, h2]
end Mp
set_option maxHeartbeats 4000000
namespace Mp
open PySem L2
variable [TabsW] [GdW]
theorem at_map {α : Type} (f : α → D) (l : List α) (p : Nat) (x : α) (h : l[p]? = some x) : atI (l.map f) (p : Int) = some (f x) := by
  have hp : p < l.length := (List.getElem?_eq_some_iff.mp h).1
  unfold atI
  rw [ix_in' (by omega) (by simp; omega)]
  show (l.map f)[(p : Int).toNat]? = _
  rw [Int.toNat_natCast, List.getElem?_map, h]
  rfl
end Mp
set_option maxHeartbeats 4000000
namespace Mp
open PySem L2
variable [TabsW] [GdW]
/-- the state of the draws -/
def src (a b : Int) : List D := [.int a, .int b]
theorem io_call {G : Ctx} {j i : Nat} {f : Fn} {es : List IR} {env env' : Env} {ds ds' out vs : List D} {d : D} (hj : G.fns[j]? = some f) (hio : f.io = some 0) (hn : es.length + 1 = f.n) (hi : env[i]? = some (some (.io ds)))
    (he : evs G es env = .ok vs env') (hi' : env'[i]? = some (some (.io ds'))) (hs : f.sem (.lst ds' :: vs) = .ok d out) : ev G (.call j (.v i :: es)) env = .ok (.val d) (env'.set i (some (.io out))) := by
  rw [ev_call_io hj hio hn (.inr hi), he]
  have hc : cellAt env' i = some (.io ds') := by unfold cellAt; rw [hi']; rfl
  show (match (cellAt env' i).map content with
      | some d0 => frR env' (some 0) [i] (f.sem (d0 :: vs))
      | none => .bad) = _
  rw [hc]
  show frR env' (some 0) [i] (f.sem (.lst ds' :: vs)) = _
  rw [hs]
  unfold frR
  dsimp only
  rw [hc]
theorem own_call {G : Ctx} {j i : Nat} {f : Fn} {es : List IR} {env env' : Env} {ds ds' out vs : List D} {d : D} (hj : G.fns[j]? = some f) (hio : f.io = some 0) (hn : es.length + 1 = f.n) (hi : env[i]? = some (some (.own ds)))
    (he : evs G es env = .ok vs env') (hi' : env'[i]? = some (some (.own ds'))) (hs : f.sem (.lst ds' :: vs) = .ok d out) : ev G (.call j (.v i :: es)) env = .ok (.val d) (env'.set i (some (.own out))) := by
  rw [ev_call_io hj hio hn (.inl hi), he]
  have hc : cellAt env' i = some (.own ds') := by unfold cellAt; rw [hi']; rfl
  show (match (cellAt env' i).map content with
      | some d0 => frR env' (some 0) [i] (f.sem (d0 :: vs))
      | none => .bad) = _
  rw [hc]
  show frR env' (some 0) [i] (f.sem (.lst ds' :: vs)) = _
  rw [hs]
  unfold frR
  dsimp only
  rw [hc]
theorem s_take (a b : Int) (t : Nat) (h0 : 0 < t) (h1 : t < 1073741824) : ∃ (d : Nat) (a' b' : Int), d < t ∧ f__law_take.sem [.lst (src a b), .int t] = .ok (.int d) (src a' b') := by
  have ht : (0 : Int) < (t : Int) := by omega
  have ht2 : (t : Int) < 1073741824 := by omega
  by_cases ha : 0 < a
  · refine ⟨(a % t).toNat, a / t, b, ?_, ?_⟩
    · have := Int.emod_lt_of_pos a ht
      have := Int.emod_nonneg a (Int.ne_of_gt ht)
      omega
    · have e : (((a % t).toNat : Nat) : Int) = a % t := Int.toNat_of_nonneg (Int.emod_nonneg a (Int.ne_of_gt ht))
      have g0 : atI [D.int a, D.int b] 0 = some (.int a) := rfl
      have gi (i : Int) : bltD .int [.int i] = some (.int i) := rfl
      show semB g__law_take 3 (some 0) b__law_take [.lst (src a b), .int t] = _
      unfold semB b__law_take
      rw [e]
      simp [evSs, evS, evs, evr, truR, startE, cellsF, cellF, evq_c, evq_v, evq_bin, evq_cmp, evq_chn, evq_and_, evq_or_, evq_not_, evq_neg, evq_ite, evq_tup, evq_lst, evq_ix, evq_blt, evq_isin, R.bind, R.take, R.toS, SR.seq, takeO, rdO, cellAt, content, truD, runF, outE, lift, src, ixD, g0, cmpD, ha, gi, binD, modD, fdivD, ht, ht2, h0, h1, bindT, freeB_eq, placeB, List.lookup, R.rd]
  · refine ⟨((((b * 39373 + 7) % 2147483647 * ((b * 39373 + 7) % 2147483647)) % 2147483629 / 32) % t).toNat, a, (b * 39373 + 7) % 2147483647, ?_, ?_⟩
    · have := Int.emod_lt_of_pos (((b * 39373 + 7) % 2147483647 * ((b * 39373 + 7) % 2147483647)) % 2147483629 / 32) ht
      have := Int.emod_nonneg (((b * 39373 + 7) % 2147483647 * ((b * 39373 + 7) % 2147483647)) % 2147483629 / 32) (Int.ne_of_gt ht)
      omega
    · have e : (((((((b * 39373 + 7) % 2147483647 * ((b * 39373 + 7) % 2147483647)) % 2147483629 / 32) % t).toNat) : Nat) : Int) = (((b * 39373 + 7) % 2147483647 * ((b * 39373 + 7) % 2147483647)) % 2147483629 / 32) % t := Int.toNat_of_nonneg (Int.emod_nonneg _ (Int.ne_of_gt ht))
      rw [e]
      have c0 : (0 : Int) ≤ (b * 39373 + 7) % 2147483647 := Int.emod_nonneg _ (by decide)
      have c1 : (b * 39373 + 7) % 2147483647 < 2147483647 := Int.emod_lt_of_pos _ (by decide)
      have m1 : mulD (.int b) (.int 39373) = some (.int (b * 39373)) := by unfold mulD; exact if_pos (.inr (by decide))
      generalize hc : (b * 39373 + 7) % 2147483647 = c at c0 c1 ⊢
      have m2 : mulD (.int c) (.int c) = some (.int (c * c)) := by unfold mulD; exact if_pos (.inl (by omega))
      have g0 : atI [D.int a, D.int b] 0 = some (.int a) := rfl
      have g1 : atI [D.int a, D.int b] 1 = some (.int b) := rfl
      have g2 : atI [D.int a, D.int c] 1 = some (.int c) := rfl
      have gi (i : Int) : bltD .int [.int i] = some (.int i) := rfl
      show semB g__law_take 3 (some 0) b__law_take [.lst (src a b), .int t] = _
      unfold semB b__law_take
      simp [evSs, evS, evs, evr, truR, startE, cellsF, cellF, evq_c, evq_v, evq_bin, evq_cmp, evq_chn, evq_and_, evq_or_, evq_not_, evq_neg, evq_ite, evq_tup, evq_lst, evq_ix, evq_blt, evq_isin, R.bind, R.take, R.toS, SR.seq, takeO, rdO, cellAt, content, truD, runF, outE, lift, src, ixD, g0, g1, g2, cmpD, ha, gi, binD, modD, fdivD, addD, m1, m2, hc, ht, ht2, h0, h1, bindT, freeB_eq, placeB, R.rd]
end Mp
set_option maxHeartbeats 400000
namespace Mp
open PySem L2
variable [TabsW] [GdW]
theorem s_one (a b : Int) (ds : List D) (h0 : 0 < ds.length) (h1 : ds.length < 1073741824) : ∃ (d : D) (a' b' : Int), d ∈ ds ∧ f__law_one.sem [.lst (src a b), .lst ds] = .ok d (src a' b') := by
  obtain ⟨d, a', b', hd, h⟩ := s_take a b ds.length h0 h1
  refine ⟨ds[d], a', b', List.getElem_mem _, ?_⟩
  have hx : atI ds (d : Int) = some ds[d] := by
    unfold atI
    rw [ix_in' (by omega) (by omega)]
    show ds[(d : Int).toNat]? = _
    rw [Int.toNat_natCast]; exact List.getElem?_eq_getElem hd
  have L : evs g__law_one [.blt .len [.v 1]] [some (.io (src a b)), some (.dat (.lst ds))] = .ok [.int ds.length] [some (.io (src a b)), some (.dat (.lst ds))] := rfl
  have C := io_call (G := g__law_one) (j := 0) (i := 0) (f := f__law_take) (env := [some (.io (src a b)), some (.dat (.lst ds))]) rfl rfl rfl rfl L rfl h
  show semB g__law_one 2 (some 0) b__law_one [.lst (src a b), .lst ds] = _
  unfold semB b__law_one
  generalize hs : src a b = s at C ⊢
  simp [evSs, evS, evs, evr, truR, startE, cellsF, cellF, evq_c, evq_v, evq_bin, evq_cmp, evq_chn, evq_and_, evq_or_, evq_not_, evq_neg, evq_ite, evq_tup, evq_lst, evq_ix, evq_blt, evq_isin, R.bind, R.take, R.toS, SR.seq, takeO, rdO, cellAt, content, truD, runF, outE, lift, C, ixD, hx]
theorem s_rounds (ds : List D) : f__law_rounds.sem [.lst ds] = .ok (.lst (iotaD 0 (max 1 (min ds.length 4)))) [] := by
  have e1 : bltD .min2 [.int (ds.length : Int), .int 4] = some (.int ((min ds.length 4 : Nat) : Int)) := by
    show some (D.int (if (4 : Int) < (ds.length : Int) then 4 else (ds.length : Int))) = _
    congr 2; split <;> omega
  have e2 : bltD .max2 [.int 1, .int ((min ds.length 4 : Nat) : Int)] = some (.int ((max 1 (min ds.length 4) : Nat) : Int)) := max_nat 1 (min ds.length 4)
  have hb : BIG = 100000 := rfl
  show semB g__law_rounds 1 none b__law_rounds [.lst ds] = _
  unfold semB b__law_rounds
  generalize hk : max 1 (min ds.length 4) = k at e2 ⊢
  have hk4 : k ≤ 4 := by omega
  have c1 : -1000000 ≤ (k : Int) := by omega
  have c2 : (k : Int) ≤ 100000 := by omega
  generalize min ds.length 4 = l at e1 e2
  simp [evSs, evS, evs, evr, truR, startE, cellsF, cellF, evq_c, evq_v, evq_bin, evq_cmp, evq_chn, evq_and_, evq_or_, evq_not_, evq_neg, evq_ite, evq_tup, evq_lst, evq_ix, evq_blt, evq_isin, R.bind, R.take, R.toS, SR.seq, takeO, rdO, cellAt, content, truD, runF, outE, lift, len_lst, e1, e2, evq_lrng, R.rd, c1, c2, hb]
end Mp
set_option maxHeartbeats 1000000
set_option maxHeartbeats 1000000
namespace Mp
open PySem L2
variable [TabsW] [GdW]
def dT (s : Nat × Nat) : D := .tup [.int s.1, .int s.2]
theorem dS_eq (ss : List (Nat × Nat)) : dS ss = ss.map dT := rfl
/-- good spans -/
def PW (ss : List (Nat × Nat)) : Prop := ss.Pairwise fun a b => a.2 < b.1
def GoodL (ss : List (Nat × Nat)) : Prop := PW ss ∧ (∀ s, s ∈ ss → s.1 ≤ s.2 ∧ s.2 ≤ 9999) ∧ ss.length ≤ 4
def GoodO : Option (List (Nat × Nat)) → Prop
  | none => True
  | some ss => GoodL ss
theorem apart_pw : ∀ (ss : List (Nat × Nat)), PW ss → apartS ss = true
  | [], _ => rfl
  | [s], _ => rfl
  | s :: r :: ss, h => by
    have p := List.pairwise_cons.mp h
    unfold apartS
    rw [apart_pw (r :: ss) p.2, decide_eq_true (p.1 r List.mem_cons_self)]
    rfl
theorem spansD_dS : ∀ (ss : List (Nat × Nat)), (∀ s, s ∈ ss → s.1 ≤ s.2 ∧ s.2 ≤ 9999) → spansD (dS ss) = some ss
  | [], _ => rfl
  | s :: ss, h => by
    have h1 := h s List.mem_cons_self
    show spansD (D.tup [.int (s.1 : Nat), .int (s.2 : Nat)] :: dS ss) = _
    unfold spansD
    rw [if_pos ⟨by omega, by omega, by omega⟩, spansD_dS ss fun r hr => h r (List.mem_cons_of_mem _ hr)]
    rfl
theorem spansD_inv : ∀ (l : List D) (ss : List (Nat × Nat)), spansD l = some ss → l = dS ss ∧ ∀ s, s ∈ ss → s.1 ≤ s.2 ∧ s.2 ≤ 9999
  | [], ss, h => by cases h; exact ⟨rfl, fun s h => by cases h⟩
  | d :: l, ss, h => by
    unfold spansD at h
    split at h
    · rename_i h0; cases h0
    · rename_i a b ds h0
      cases h0
      split at h
      · rename_i hc
        cases hs : spansD l with
        | none => rw [hs] at h; cases h
        | some ts =>
          rw [hs] at h
          cases h
          obtain ⟨e1, e2⟩ := spansD_inv l ts hs
          refine ⟨?_, fun s hs => ?_⟩
          · rw [e1]
            show _ = D.tup [.int (a.toNat : Int), .int (b.toNat : Int)] :: dS ts
            rw [Int.toNat_of_nonneg hc.1, Int.toNat_of_nonneg (by omega)]
          · rcases List.mem_cons.mp hs with rfl | hs
            · constructor <;> dsimp only <;> omega
            · exact e2 s hs
      · cases h
    · cases h
def dSl : Option (List (Nat × Nat)) → D
  | none => .non
  | some ss => .lst (dS ss)
theorem k_lst (l : List D) : k_Hours.sem [.lst l] = match spansD l with
    | some ss => if goodS ss = true then FR.ok .non [.tup l] else .bad
    | none => .bad := rfl
theorem k_good {o} (h : GoodO o) : k_Hours.sem [dSl o] = .ok .non [dSp o] := by
  cases o with
  | none => rfl
  | some ss =>
    have hs := spansD_dS ss h.2.1
    have hg : goodS ss = true := by
      unfold goodS
      rw [apart_pw ss h.1, decide_eq_true h.2.2]; rfl
    show k_Hours.sem [.lst (dS ss)] = _
    rw [k_lst, hs]
    dsimp only
    rw [if_pos hg]
    rfl
theorem s_told_minute (n : Nat) (h : n ≤ 9999) : f_is_told_minute.sem [.int n] = .ok (.bl true) [] := by
  have q : f_is_between.sem [.int n, .int 0, .int 9999] = .ok (.bl true) [] := s_between n 0 9999 (by omega) h
  show semB g_is_told_minute 1 none b_is_told_minute [.int n] = _
  unfold semB b_is_told_minute
  simp [evSs, evS, evs, evr, truR, startE, cellsF, cellF, evq_c, evq_v, evq_bin, evq_cmp, evq_chn, evq_and_, evq_or_, evq_not_, evq_neg, evq_ite, evq_tup, evq_lst, evq_ix, evq_blt, evq_isin, R.bind, R.take, R.toS, SR.seq, takeO, rdO, cellAt, content, truD, runF, outE, lift, cl_is_told_minute_0, q]
theorem s_is_span (s : Nat × Nat) (h : s.1 ≤ s.2 ∧ s.2 ≤ 9999) : f_is_span.sem [dT s] = .ok (.bl true) [] := by
  have q1 := s_told_minute s.1 (by omega)
  have q2 := s_told_minute s.2 h.2
  have g0 (x y : D) : atI [x, y] 0 = some x := rfl
  have g1 (x y : D) : atI [x, y] 1 = some y := rfl
  have e1 : bltD .len [.tup [.int (s.1 : Int), .int (s.2 : Int)]] = some (.int 2) := rfl
  have e2 : cmpD .eq (.int 2) (.int 2) = some true := rfl
  have e3 : cmpD .le (.int (s.1 : Int)) (.int (s.2 : Int)) = some true := by show some (decide _) = _; rw [decide_eq_true (by omega)]
  show semB g_is_span 1 none b_is_span [.tup [.int s.1, .int s.2]] = _
  unfold semB b_is_span
  simp [evSs, evS, evs, evr, truR, startE, cellsF, cellF, evq_c, evq_v, evq_bin, evq_cmp, evq_chn, evq_and_, evq_or_, evq_not_, evq_neg, evq_ite, evq_tup, evq_lst, evq_ix, evq_blt, evq_isin, R.bind, R.take, R.toS, SR.seq, takeO, rdO, cellAt, content, truD, runF, outE, lift, cl_is_span_0, q1, q2, ixD, g0, g1, e1, e2, e3, knownB, tyD]
theorem iota_map (lo : Nat) : ∀ n, iotaD lo n = (List.range' lo n).map fun k : Nat => D.int (k : Int)
  | 0 => rfl
  | n + 1 => by
    rw [iotaD, List.range'_succ, List.map_cons, ← iota_map (lo + 1) n]
    rfl
theorem apart_get : ∀ (ss : List (Nat × Nat)), apartS ss = true → ∀ (k : Nat) (s r : Nat × Nat), ss[k]? = some s → ss[k + 1]? = some r → s.2 < r.1
  | [], _, k, s, r, h1, _ => by cases h1
  | [x], _, k, s, r, h1, h2 => by
    cases k with
    | zero => cases h2
    | succ k => cases h1
  | x :: y :: ss, h, k, s, r, h1, h2 => by
    unfold apartS at h
    rw [Bool.and_eq_true] at h
    cases k with
    | zero => cases h1; cases h2; exact of_decide_eq_true h.1
    | succ k => exact apart_get (y :: ss) h.2 k s r h1 h2
theorem s_are_spans (ss : List (Nat × Nat)) (h : ∀ s, s ∈ ss → s.1 ≤ s.2 ∧ s.2 ≤ 9999) (hl : ss.length ≤ 4) (ha : apartS ss = true) : f_are_spans.sem [.lst (dS ss)] = .ok (.bl true) [] := by
  have hb : BIG = 100000 := rfl
  have L1 : ev g_are_spans (.lc (.name 2) (.seq (.v 0)) none (.call 0 [.v 2]) [2]) [some (.dat (.lst (dS ss))), none, none] = .ok (.val (.lst (List.replicate ss.length (D.bl true)))) [some (.dat (.lst (dS ss))), none, none] := by
    have := ev_lc_run (G := g_are_spans) (i := 2) (it := .seq (.v 0)) (t := none) (e := .call 0 [.v 2]) (env := [some (.dat (.lst (dS ss))), none, none]) (env0 := [some (.dat (.lst (dS ss))), none, none]) (ds := ss.map dT) (fun _ => true) (fun _ => .bl true) rfl (by simp; omega) rfl (by simp) (fun d hd => rfl) (fun d hd _ => by
      obtain ⟨s, hs, rfl⟩ := List.mem_map.mp hd
      rw [cl_are_spans_0]
      show R.take (runF _ (f_is_span.sem [dT s])) = _
      rw [s_is_span s (h s hs)]
      rfl)
    rw [this]
    congr 3
    rw [List.map_const', List.filter_eq_self.mpr (fun _ _ => rfl)]
    simp
  have L2 : ev g_are_spans (.lc (.name 1) (.rng2 (.c (.int 1)) (.blt .len [.v 0])) none (.cmp .lt (.ix (.ix (.v 0) (.bin .sub (.v 1) (.c (.int 1)))) (.c (.int 1))) (.ix (.ix (.v 0) (.v 1)) (.c (.int 0)))) [1]) [some (.dat (.lst (dS ss))), none, none] = .ok (.val (.lst (List.replicate (ss.length - 1) (D.bl true)))) [some (.dat (.lst (dS ss))), none, none] := by
    have hi : evi g_are_spans (.rng2 (.c (.int 1)) (.blt .len [.v 0])) [some (.dat (.lst (dS ss))), none, none] = .ok (iotaD 1 (ss.length - 1)) [some (.dat (.lst (dS ss))), none, none] := by
      have hlen : bltD .len [.lst (dS ss)] = some (.int ss.length) := by show some (D.int ((dS ss).length : Nat)) = _; rw [dS_eq]; simp
      have ev1 : ev g_are_spans (.blt .len [.v 0]) [some (.dat (.lst (dS ss))), none, none] = .ok (.val (.int ss.length)) [some (.dat (.lst (dS ss))), none, none] := by
        simp [evSs, evS, evs, evr, truR, startE, cellsF, cellF, evq_c, evq_v, evq_bin, evq_cmp, evq_chn, evq_and_, evq_or_, evq_not_, evq_neg, evq_ite, evq_tup, evq_lst, evq_ix, evq_blt, evq_isin, R.bind, R.take, R.toS, SR.seq, takeO, rdO, cellAt, content, truD, runF, outE, lift, hlen]
      rw [evi, evq_c]
      simp only [R.rd, R.bind, rdO, ev1]
      show (if -1000000 ≤ (1 : Int) ∧ (1 : Int) ≤ 1000000 ∧ -1000000 ≤ (ss.length : Int) ∧ (ss.length : Int) ≤ 1000000 then R.ok (iotaD 1 ((ss.length : Int) - 1).toNat) _ else .bad) = _
      rw [if_pos ⟨by decide, by decide, by omega, by omega⟩]
      congr 2; omega
    have io : iotaD 1 (ss.length - 1) = (List.range' 1 (ss.length - 1)).map fun k : Nat => D.int (k : Int) := iota_map 1 _
    have := ev_lc_run (G := g_are_spans) (i := 1) (t := none) (e := .cmp .lt (.ix (.ix (.v 0) (.bin .sub (.v 1) (.c (.int 1)))) (.c (.int 1))) (.ix (.ix (.v 0) (.v 1)) (.c (.int 0)))) (env0 := [some (.dat (.lst (dS ss))), none, none]) (ds := (List.range' 1 (ss.length - 1)).map fun k : Nat => D.int (k : Int)) (fun _ => true) (fun _ => .bl true) (io ▸ hi) (by simp; omega) rfl (by simp) (fun d hd => rfl) (fun d hd _ => by
      obtain ⟨k, hk, rfl⟩ := List.mem_map.mp hd
      have hk' := List.mem_range'_1.mp hk
      obtain ⟨s, hs⟩ : ∃ s, ss[k - 1]? = some s := ⟨_, List.getElem?_eq_getElem (by omega)⟩
      obtain ⟨r, hr⟩ : ∃ r, ss[k]? = some r := ⟨_, List.getElem?_eq_getElem (by omega)⟩
      have hlt := apart_get ss ha (k - 1) s r hs (by rw [show k - 1 + 1 = k by omega]; exact hr)
      have a1 : atI (dS ss) ((k : Int) - 1) = some (dT s) := by
        have := at_map dT ss (k - 1) s hs
        rwa [show ((k - 1 : Nat) : Int) = (k : Int) - 1 by omega] at this
      have a2 : atI (dS ss) (k : Int) = some (dT r) := at_map dT ss k r hr
      have g0 (x y : D) : atI [x, y] 0 = some x := rfl
      have g1 (x y : D) : atI [x, y] 1 = some y := rfl
      have hc : cmpD .lt (.int (s.2 : Int)) (.int (r.1 : Int)) = some true := by show some (decide _) = _; rw [decide_eq_true (by omega)]
      simp [evSs, evS, evs, evr, truR, startE, cellsF, cellF, evq_c, evq_v, evq_bin, evq_cmp, evq_chn, evq_and_, evq_or_, evq_not_, evq_neg, evq_ite, evq_tup, evq_lst, evq_ix, evq_blt, evq_isin, R.bind, R.take, R.toS, SR.seq, takeO, rdO, cellAt, content, truD, runF, outE, lift, binD, subD, ixD, a1, a2, dT, g0, g1, hc])
    rw [this]
    congr 3
    rw [List.map_const', List.filter_eq_self.mpr (fun _ _ => rfl)]
    simp
  have hlen : (dS ss).length = ss.length := by rw [dS_eq]; simp
  have hc : cmpD .gt (.int (ss.length : Int)) (.int 4) = some false := by show some (decide _) = _; rw [decide_eq_false (by omega)]
  show semB g_are_spans 3 none b_are_spans [.lst (dS ss)] = _
  unfold semB b_are_spans
  simp [evSs, evS, evs, evr, truR, startE, cellsF, cellF, evq_c, evq_v, evq_bin, evq_cmp, evq_chn, evq_and_, evq_or_, evq_not_, evq_neg, evq_ite, evq_tup, evq_lst, evq_ix, evq_blt, evq_isin, R.bind, R.take, R.toS, SR.seq, takeO, rdO, cellAt, content, truD, runF, outE, lift, L1, L2, all_true, len_lst, hlen, hc]
theorem cli0 {a0 : IR} {env : Env} : ev g_Hours___init__ (.call 0 [a0]) env = (evs g_Hours___init__ [a0] env).bind fun ds e1 => runF e1 (f_is_listed.sem ds) := ev_call rfl rfl rfl
theorem cli1 {a0 : IR} {env : Env} : ev g_Hours___init__ (.call 1 [a0]) env = (evs g_Hours___init__ [a0] env).bind fun ds e1 => runF e1 (f_are_spans.sem ds) := ev_call rfl rfl rfl
theorem init_Hours : InitF g_Hours___init__ 1 b_Hours___init__ t_Hours___init__ k_Hours.sem := by
  intro v ds
  have bad : ∀ (d : D), (∀ l, d ≠ .lst l) → d ≠ .non → k_Hours.sem [d] = .bad := by
    intro d h1 h2
    cases d <;> first | rfl | exact absurd rfl (h1 _) | exact absurd rfl h2
  match ds with
  | [] => exact .inl rfl
  | _ :: _ :: _ => exact .inl (by unfold k_Hours; dsimp only; split <;> first | rfl | (rename_i h; cases h))
  | [d] =>
    by_cases h2 : d = .non
    · subst h2
      exact .inr (.inl ⟨_, _, _, rfl, rfl, rfl, rfl⟩)
    · by_cases h1 : ∃ l, d = .lst l
      · obtain ⟨l, rfl⟩ := h1
        cases hs : spansD l with
        | none =>
          left
          rw [k_lst, hs]
        | some ss =>
          cases hg : goodS ss with
          | false =>
            left
            rw [k_lst, hs]
            dsimp only
            rw [hg]; rfl
          | true =>
            have F : k_Hours.sem [.lst l] = .ok .non [.tup l] := by
              rw [k_lst, hs]
              dsimp only
              rw [hg]; rfl
            obtain ⟨e1, e2⟩ := spansD_inv l ss hs
            unfold goodS at hg
            rw [Bool.and_eq_true] at hg
            have q := s_are_spans ss e2 (of_decide_eq_true hg.1) hg.2
            rw [← e1] at q
            refine .inr (.inl ⟨[some (.dat (.raw v)), some (.dat (.lst l))], [.tup l], [some (.dat (.raw v)), some (.dat (.lst l))], ?_, rfl, ?_, F⟩)
            · have n1 : cmpD .isnot (.lst l) .non = some true := rfl
              unfold b_Hours___init__ startI
              simp [evSs, evS, evs, evr, truR, startE, cellsF, cellF, evq_c, evq_v, evq_bin, evq_cmp, evq_chn, evq_and_, evq_or_, evq_not_, evq_neg, evq_ite, evq_tup, evq_lst, evq_ix, evq_blt, evq_isin, R.bind, R.take, R.toS, SR.seq, takeO, rdO, cellAt, content, truD, runF, outE, lift, cli0, cli1, s_is_listed, q, n1]
            · have n1 : cmpD .is_ (.lst l) .non = some false := rfl
              unfold t_Hours___init__
              have tp : bltD .tuple [.lst l] = some (.tup l) := rfl
              simp [evSs, evS, evs, evr, truR, startE, cellsF, cellF, evq_c, evq_v, evq_bin, evq_cmp, evq_chn, evq_and_, evq_or_, evq_not_, evq_neg, evq_ite, evq_tup, evq_lst, evq_ix, evq_blt, evq_isin, R.bind, R.take, R.toS, SR.seq, takeO, rdO, cellAt, content, truD, runF, outE, lift, n1, tp]
      · exact .inl (bad d (fun l e => h1 ⟨l, e⟩) h2)
end Mp
set_option maxHeartbeats 1000000
namespace Mp
open PySem L2
variable [TabsW] [GdW]
def bSP : List ST := [.asg (.name 4) (.bin .add (.v 2) (.call 0 [.v 0, .c (.int 4)])), .asg (.name 5) (.bin .add (.v 4) (.call 1 [.v 0, .lst [.c (.int 0), .c (.int 1), .c (.int 2), .c (.int 4), .c (.int 6), .c (.int 9)]])), .expr (.app 3 (.tup [.v 4, .v 5])), .asg (.name 2) (.bin .add (.bin .add (.v 5) (.c (.int 1))) (.call 0 [.v 0, .c (.int 3)]))]
/-- spans so far, and the minute behind them -/
structure SpI (ss : List (Nat × Nat)) (n : Nat) : Prop where
  pw : PW ss
  le : ∀ s, s ∈ ss → s.1 ≤ s.2 ∧ s.2 < n
  n : n ≤ 15 * ss.length
def envS (a b : Int) (x1 : Option Cell) (n : Nat) (ss : List (Nat × Nat)) (x4 x5 : Option Cell) : Env := [some (.io (src a b)), x1, some (.dat (.int n)), some (.own (dS ss)), x4, x5]
theorem sp_turn (a b : Int) (d : D) (n : Nat) (ss : List (Nat × Nat)) (h : SpI ss n) (hl : ss.length < 4) (x4 x5 : Option Cell) (h4 : frC x4 = true) (h5 : frC x5 = true) :
    ∃ a' b' n' s y4 y5, frC y4 = true ∧ frC y5 = true ∧ SpI (ss ++ [s]) n' ∧ evSs g__law_spans bSP (envS a b (some (.dat d)) n ss x4 x5) = .nx (envS a' b' (some (.dat d)) n' (ss ++ [s]) y4 y5) := by
  obtain ⟨u, a1, b1, hu, c1⟩ := s_take a b 4 (by decide) (by decide)
  obtain ⟨e, a2, b2, he, c2⟩ := s_one a1 b1 [.int 0, .int 1, .int 2, .int 4, .int 6, .int 9] (by decide) (by decide)
  obtain ⟨w, hw, rfl⟩ : ∃ w : Nat, w ≤ 9 ∧ e = .int w := by
    simp at he
    rcases he with rfl | rfl | rfl | rfl | rfl | rfl
    · exact ⟨0, by decide, rfl⟩
    · exact ⟨1, by decide, rfl⟩
    · exact ⟨2, by decide, rfl⟩
    · exact ⟨4, by decide, rfl⟩
    · exact ⟨6, by decide, rfl⟩
    · exact ⟨9, by decide, rfl⟩
  obtain ⟨v, a3, b3, hv, c3⟩ := s_take a2 b2 3 (by decide) (by decide)
  refine ⟨a3, b3, n + u + w + 1 + v, (n + u, n + u + w), some (.dat (.int ((n + u : Nat) : Int))), some (.dat (.int ((n + u + w : Nat) : Int))), rfl, rfl, ⟨?_, ?_, ?_⟩, ?_⟩
  · refine List.pairwise_append.mpr ⟨h.pw, List.pairwise_cons.mpr ⟨fun _ h => (by cases h), .nil⟩, fun s hs r hr => ?_⟩
    rw [List.mem_singleton] at hr
    subst hr
    have := (h.le s hs).2
    dsimp only; omega
  · intro s hs
    rcases List.mem_append.mp hs with hs | hs
    · have := h.le s hs; omega
    · rw [List.mem_singleton] at hs
      subst hs
      dsimp only; omega
  · have := h.n; simp; omega
  · have hdS : dS (ss ++ [(n + u, n + u + w)]) = dS ss ++ [.tup [.int ((n : Int) + u), .int ((n : Int) + u + w)]] := by simp [dS]
    have hlen : (dS ss).length < BIG := by rw [dS_eq]; simp; have : BIG = 100000 := rfl; omega
    have C1 := io_call (G := g__law_spans) (j := 0) (i := 0) (f := f__law_take) (es := [.c (.int 4)]) (env := [some (.io (src a b)), some (.dat d), some (.dat (.int n)), some (.own (dS ss)), x4, x5]) rfl rfl rfl rfl rfl rfl c1
    have C2 := io_call (G := g__law_spans) (j := 1) (i := 0) (f := f__law_one) (es := [.lst [.c (.int 0), .c (.int 1), .c (.int 2), .c (.int 4), .c (.int 6), .c (.int 9)]]) (env := [some (.io (src a1 b1)), some (.dat d), some (.dat (.int n)), some (.own (dS ss)), some (.dat (.int ((n : Int) + u))), x5]) rfl rfl rfl rfl rfl rfl c2
    have C3 := io_call (G := g__law_spans) (j := 0) (i := 0) (f := f__law_take) (es := [.c (.int 3)]) (env := [some (.io (src a2 b2)), some (.dat d), some (.dat (.int n)), some (.own (dS ss ++ [.tup [.int ((n : Int) + u), .int ((n : Int) + u + w)]])), some (.dat (.int ((n : Int) + u))), some (.dat (.int ((n : Int) + u + w)))]) rfl rfl rfl rfl rfl rfl c3
    have e1 : (((n + u : Nat) : Int)) = (n : Int) + u := by omega
    have e2 : (((n + u + w : Nat) : Int)) = (n : Int) + u + w := by omega
    have e3 : (((n + u + w + 1 + v : Nat) : Int)) = (n : Int) + u + w + 1 + v := by omega
    have hb : 2 ≤ BIG := by decide
    unfold bSP envS
    rw [hdS, e1, e2, e3]
    generalize dS ss = L at *
    generalize src a b = s at *
    generalize src a1 b1 = s1 at *
    generalize src a2 b2 = s2 at *
    generalize src a3 b3 = s3 at *
    simp [evSs, evS, evs, evr, truR, startE, cellsF, cellF, evq_c, evq_v, evq_bin, evq_cmp, evq_chn, evq_and_, evq_or_, evq_not_, evq_neg, evq_ite, evq_tup, evq_lst, evq_ix, evq_blt, evq_isin, R.bind, R.take, R.toS, SR.seq, takeO, rdO, cellAt, content, truD, runF, outE, lift, C1, C2, C3, binD, addD, bindT, freeB_eq, h4, h5, evq_app, ownB, hlen, hb]
theorem sp_loop : ∀ (ds : List D) (a b : Int) (x1 : Option Cell) (n : Nat) (ss : List (Nat × Nat)) (x4 x5 : Option Cell), SpI ss n → ss.length + ds.length ≤ 4 → frC x1 = true → frC x4 = true → frC x5 = true →
    ∃ a' b' y1 n' ss' y4 y5, SpI ss' n' ∧ ss'.length ≤ 4 ∧ forL (.name 1) (fun e => evSs g__law_spans bSP e) ds (envS a b x1 n ss x4 x5) = .nx (envS a' b' y1 n' ss' y4 y5)
  | [], a, b, x1, n, ss, x4, x5, h, hl, _, _, _ => ⟨a, b, x1, n, ss, x4, x5, h, by simpa using hl, rfl⟩
  | d :: ds, a, b, x1, n, ss, x4, x5, h, hl, h1, h4, h5 => by
    obtain ⟨a1, b1, n1, s, y4, y5, g4, g5, hI, ht⟩ := sp_turn a b d n ss h (by simp at hl; omega) x4 x5 h4 h5
    obtain ⟨a', b', z1, n', ss', z4, z5, k1, k2, k3⟩ := sp_loop ds a1 b1 (some (.dat d)) n1 (ss ++ [s]) y4 y5 hI (by simp at hl ⊢; omega) rfl g4 g5
    refine ⟨a', b', z1, n', ss', z4, z5, k1, k2, ?_⟩
    have hb : bindT (.name 1) d (envS a b x1 n ss x4 x5) = some (envS a b (some (.dat d)) n ss x4 x5) := by
      unfold bindT envS
      simp [freeB_eq, h1]
    rw [forL, hb]
    dsimp only
    rw [ht]
    exact k3
theorem s_spans (a b : Int) : ∃ o a' b', GoodO o ∧ f__law_spans.sem [.lst (src a b)] = .ok (dSl o) (src a' b') := by
  obtain ⟨u, a1, b1, hu, c1⟩ := s_take a b 6 (by decide) (by decide)
  have C1 := io_call (G := g__law_spans) (j := 0) (i := 0) (f := f__law_take) (es := [.c (.int 6)]) (env := [some (.io (src a b)), none, none, none, none, none]) rfl rfl rfl rfl rfl rfl c1
  by_cases hz : u = 0
  · subst hz
    refine ⟨none, a1, b1, trivial, ?_⟩
    have hc : cmpD .eq (.int 0) (.int 0) = some true := rfl
    show semB g__law_spans 6 (some 0) b__law_spans [.lst (src a b)] = _
    unfold semB b__law_spans
    generalize src a b = s at *
    generalize src a1 b1 = s1 at *
    simp [evSs, evS, evs, evr, truR, startE, cellsF, cellF, evq_c, evq_v, evq_bin, evq_cmp, evq_chn, evq_and_, evq_or_, evq_not_, evq_neg, evq_ite, evq_tup, evq_lst, evq_ix, evq_blt, evq_isin, R.bind, R.take, R.toS, SR.seq, takeO, rdO, cellAt, content, truD, runF, outE, lift, C1, hc, dSl]
  · obtain ⟨e, a2, b2, he, c2⟩ := s_one a1 b1 [.int 0, .int 1, .int 1, .int 2, .int 2, .int 3, .int 4] (by decide) (by decide)
    obtain ⟨w, hw, rfl⟩ : ∃ w : Nat, w ≤ 4 ∧ e = .int w := by
      simp at he
      rcases he with rfl | rfl | rfl | rfl | rfl
      · exact ⟨0, by decide, rfl⟩
      · exact ⟨1, by decide, rfl⟩
      · exact ⟨2, by decide, rfl⟩
      · exact ⟨3, by decide, rfl⟩
      · exact ⟨4, by decide, rfl⟩
    have hc : cmpD .eq (.int (u : Int)) (.int 0) = some false := by simp [cmpD, dataD, eqD, hz]
    have C2 := io_call (G := g__law_spans) (j := 1) (i := 0) (f := f__law_one) (es := [.lst [.c (.int 0), .c (.int 1), .c (.int 1), .c (.int 2), .c (.int 2), .c (.int 3), .c (.int 4)]]) (env := [some (.io (src a1 b1)), none, some (.dat (.int 0)), some (.own []), none, none]) rfl rfl rfl rfl rfl rfl c2
    obtain ⟨a', b', y1, n', ss', y4, y5, k1, k2, k3⟩ := sp_loop (iotaD 0 w) a2 b2 none 0 [] none none ⟨.nil, fun _ h => (by cases h), by simp⟩ (by rw [show iotaD 0 w = (List.range' 0 w).map fun k : Nat => D.int (k : Int) from iota_map 0 w]; simp; omega) rfl rfl rfl
    refine ⟨some ss', a', b', ⟨k1.pw, fun s hs => ?_, k2⟩, ?_⟩
    · have := k1.le s hs
      have := k1.n
      omega
    · have E : evi g__law_spans (.rng1 (.call 1 [.v 0, .lst [.c (.int 0), .c (.int 1), .c (.int 1), .c (.int 2), .c (.int 2), .c (.int 3), .c (.int 4)]])) [some (.io (src a1 b1)), none, some (.dat (.int 0)), some (.own []), none, none] = .ok (iotaD 0 w) [some (.io (src a2 b2)), none, some (.dat (.int 0)), some (.own []), none, none] := by
        rw [evi, C2]
        show (if -1000000 ≤ (w : Int) ∧ (w : Int) ≤ 1000000 then R.ok (iotaD 0 (w : Int).toNat) _ else .bad) = _
        rw [if_pos ⟨by omega, by omega⟩, Int.toNat_natCast]
        rfl
      have k3 : forL (.name 1) (fun e => evSs g__law_spans bSP e) (iotaD 0 w) [some (.io (src a2 b2)), none, some (.dat (.int 0)), some (.own []), none, none] = .nx (envS a' b' y1 n' ss' y4 y5) := k3
      unfold envS at k3
      generalize iotaD 0 w = zs at E k3
      have e0 : b__law_spans = [.if_ (.cmp .eq (.call 0 [.v 0, .c (.int 6)]) (.c (.int 0))) [.ret (.c .non)] [], .parn 2 (.c (.int 0)) 3 (.lst []), .for_ (.name 1) (.rng1 (.call 1 [.v 0, .lst [.c (.int 0), .c (.int 1), .c (.int 1), .c (.int 2), .c (.int 2), .c (.int 3), .c (.int 4)]])) bSP, .ret (.v 3)] := rfl
      show semB g__law_spans 6 (some 0) b__law_spans [.lst (src a b)] = _
      unfold semB
      rw [e0]
      show _ = FR.ok (.lst (dS ss')) (src a' b')
      generalize dS ss' = L at *
      generalize src a b = s at *
      generalize src a1 b1 = s1 at *
      generalize src a2 b2 = s2 at *
      generalize src a' b' = s3 at *
      simp [evSs, evS, evs, evr, truR, startE, cellsF, cellF, evq_c, evq_v, evq_bin, evq_cmp, evq_chn, evq_and_, evq_or_, evq_not_, evq_neg, evq_ite, evq_tup, evq_lst, evq_ix, evq_blt, evq_isin, R.bind, R.take, R.toS, SR.seq, takeO, rdO, cellAt, content, truD, runF, outE, lift, C1, hc, evL, freeB_eq, E, k3]
theorem m5t : powD (.int 10) (.int 18) = some (.int (1000000000000000000)) := by
  show (if 0 ≤ (18:Int) ∧ (18:Int) ≤ 1000000 ∧ (10:Int).natAbs < 18446744073709551616 then some (D.int ((10:Int) ^ (18:Int).toNat)) else none) = _
  rw [if_pos (by decide)]
  have : (10 : Int) ^ (18 : Int).toNat = 1000000000000000000 := by decide
  rw [this]
theorem pow_run (env : Env) : ev g__law_pool (.bin .pow (.c (.int 10)) (.c (.int 18))) env = .ok (.val (.int 1000000000000000000)) env := by
  rw [evq_bin, evq_c]
  show (ev g__law_pool (.c (.int 18)) env).bind (fun y e2 => match rdO e2 (.val (.int 10)), rdO e2 y with
    | some p, some q => lift e2 (binD .pow p q)
    | _, _ => .bad) = _
  rw [evq_c]
  show lift env (powD (.int 10) (.int 18)) = _
  rw [m5t]
  rfl
theorem pool_mix (L : List D) (k c g P Q A B C E : Int) (m1 : mulD (.int A) (.int k) = some (.int (A * k))) (m2 : mulD (.int (A * k)) (.int k) = some (.int (A * k * k))) (m3 : mulD (.int B) (.int k) = some (.int (B * k))) (m4 : ∀ x, mulD (.int x) (.int E) = some (.int (x * E)))
    (md : ∀ x, modD (.int x) (.int P) = some (.int (x % P))) (md2 : ∀ x, modD (.int x) (.int Q) = some (.int (x % Q))) :
    evS g__law_pool (.asg (.name 4) (.bin .mod (.blt .int [.bin .mul (.bin .add (.bin .add (.bin .add (.bin .mod (.blt .int [.v 3]) (.c (.int P))) (.bin .mul (.bin .mul (.c (.int A)) (.v 1)) (.v 1))) (.bin .mul (.c (.int B)) (.v 1))) (.c (.int C))) (.c (.int E))]) (.c (.int Q)))) [some (.dat (.lst L)), some (.dat (.int k)), some (.dat (.int c)), some (.dat (.int g)), none] = .nx [some (.dat (.lst L)), some (.dat (.int k)), some (.dat (.int c)), some (.dat (.int g)), some (.dat (.int (((g % P + A * k * k + B * k + C) * E) % Q)))] := by
  have gi (i : Int) : bltD .int [.int i] = some (.int i) := rfl
  have ad (x y : Int) : addD (.int x) (.int y) = some (.int (x + y)) := rfl
  simp [evSs, evS, evs, evr, truR, startE, cellsF, cellF, evq_c, evq_v, evq_bin, evq_cmp, evq_chn, evq_and_, evq_or_, evq_not_, evq_neg, evq_ite, evq_tup, evq_lst, evq_ix, evq_blt, evq_isin, R.bind, R.take, R.toS, SR.seq, takeO, rdO, cellAt, content, truD, runF, outE, lift, gi, binD, ad, m1, m2, m3, m4, md, md2, bindT, freeB_eq]
theorem seq_nx {e : Env} {k : Env → SR} : (SR.nx e).seq k = k e := rfl
theorem s_pool (ns : List Int) (k : Nat) (hk : k < 100) : ∃ a b, f__law_pool.sem [.lst (ns.map .int), .int k] = .ok (.lst (src a b)) [] := by
  obtain ⟨c, hc⟩ : ∃ c : Int, evSs g__law_pool [.asg (.name 2) (.c (.int 0)), .if_ (.cmp .lt (.v 1) (.blt .len [.v 0])) [.asg (.name 2) (.ix (.v 0) (.v 1))] []] [some (.dat (.lst (ns.map .int))), some (.dat (.int k)), none, none, none] = .nx [some (.dat (.lst (ns.map .int))), some (.dat (.int k)), some (.dat (.int c)), none, none] := by
    have hlen : bltD .len [.lst (ns.map .int)] = some (.int ns.length) := by show some (D.int ((ns.map D.int).length : Nat)) = _; simp
    by_cases h : k < ns.length
    · have hx : atI (ns.map D.int) (k : Int) = some (D.int ns[k]) := at_map _ ns k _ (List.getElem?_eq_getElem h)
      have c1 : cmpD .lt (.int (k : Int)) (.int (ns.length : Int)) = some true := by show some (decide _) = _; rw [decide_eq_true (by omega)]
      refine ⟨ns[k], ?_⟩
      generalize ns[k] = z at *
      simp [evSs, evS, evs, evr, truR, startE, cellsF, cellF, evq_c, evq_v, evq_bin, evq_cmp, evq_chn, evq_and_, evq_or_, evq_not_, evq_neg, evq_ite, evq_tup, evq_lst, evq_ix, evq_blt, evq_isin, R.bind, R.take, R.toS, SR.seq, takeO, rdO, cellAt, content, truD, runF, outE, lift, hlen, c1, ixD, hx, bindT, freeB_eq]
    · have c1 : cmpD .lt (.int (k : Int)) (.int (ns.length : Int)) = some false := by show some (decide _) = _; rw [decide_eq_false (by omega)]
      refine ⟨0, ?_⟩
      simp [evSs, evS, evs, evr, truR, startE, cellsF, cellF, evq_c, evq_v, evq_bin, evq_cmp, evq_chn, evq_and_, evq_or_, evq_not_, evq_neg, evq_ite, evq_tup, evq_lst, evq_ix, evq_blt, evq_isin, R.bind, R.take, R.toS, SR.seq, takeO, rdO, cellAt, content, truD, runF, outE, lift, hlen, c1, ixD, bindT, freeB_eq]
  obtain ⟨g, hg⟩ : ∃ g : Int, bltD .max2 [.int c, .int (-1 - c)] = some (.int g) := ⟨_, rfl⟩
  have gi (i : Int) : bltD .int [.int i] = some (.int i) := rfl
  have m1 : mulD (.int 7919) (.int (k : Int)) = some (.int (7919 * k)) := by unfold mulD; exact if_pos (.inl (by decide))
  have m2 : mulD (.int (7919 * (k : Int))) (.int (k : Int)) = some (.int (7919 * k * k)) := by unfold mulD; exact if_pos (.inr (by omega))
  have m3 : mulD (.int 31) (.int (k : Int)) = some (.int (31 * k)) := by unfold mulD; exact if_pos (.inl (by decide))
  have m4 (x : Int) : mulD (.int x) (.int 48271) = some (.int (x * 48271)) := by unfold mulD; exact if_pos (.inr (by decide))
  have m5 : powD (.int 10) (.int 18) = some (.int (1000000000000000000)) := m5t
  obtain ⟨z, hz, m6⟩ : ∃ z : Bool, cmpD .ge (.int g) (.int 1000000000000000000) = some z ∧ mulD (.int g) (.int (if z then 1 else 0)) = some (.int (g * (if z then 1 else 0))) := by
    refine ⟨_, rfl, ?_⟩
    unfold mulD
    exact if_pos (.inr (by split <;> decide))
  have gb (b : Bool) : bltD .int [.bl b] = some (.int (if b then 1 else 0)) := rfl
  have md (x : Int) : modD (.int x) (.int 2147483629) = some (.int (x % 2147483629)) := by unfold modD; exact if_pos (by decide)
  have md2 (x : Int) : modD (.int x) (.int 2147483647) = some (.int (x % 2147483647)) := by unfold modD; exact if_pos (by decide)
  have ad (x y : Int) : addD (.int x) (.int y) = some (.int (x + y)) := rfl
  have sb (x y : Int) : subD (.int x) (.int y) = some (.int (x - y)) := rfl
  have hb : 2 ≤ BIG := by decide
  refine ⟨g * (if z then 1 else 0), ((g % 2147483629 + 7919 * k * k + 31 * k + 17) * 48271) % 2147483647, ?_⟩
  generalize hw : (if z then (1 : Int) else 0) = w at *
  have e0 : b__law_pool = [.asg (.name 2) (.c (.int 0)), .if_ (.cmp .lt (.v 1) (.blt .len [.v 0])) [.asg (.name 2) (.ix (.v 0) (.v 1))] []] ++ [.asg (.name 3) (.blt .max2 [.blt .int [.v 2], .blt .int [.bin .sub (.neg (.c (.int 1))) (.v 2)]]), .asg (.name 4) (.bin .mod (.blt .int [.bin .mul (.bin .add (.bin .add (.bin .add (.bin .mod (.blt .int [.v 3]) (.c (.int 2147483629))) (.bin .mul (.bin .mul (.c (.int 7919)) (.v 1)) (.v 1))) (.bin .mul (.c (.int 31)) (.v 1))) (.c (.int 17))) (.c (.int 48271))]) (.c (.int 2147483647))), .retl (.lst [.bin .mul (.v 3) (.blt .int [.cmp .ge (.v 3) (.bin .pow (.c (.int 10)) (.c (.int 18)))]), .v 4])] := rfl
  have app : ∀ (G : Ctx) (as bs : List ST) (env : Env), evSs G (as ++ bs) env = (evSs G as env).seq fun e => evSs G bs e := by
    intro G as
    induction as with
    | nil => intro bs env; rw [List.nil_append]; conv => rhs; rw [evSs]
             rfl
    | cons s as ih =>
      intro bs env
      rw [List.cons_append, evSs, evSs]
      cases evS G s env with
      | nx e => exact ih bs e
      | _ => rfl
  have st : startE none 5 [D.lst (ns.map .int), D.int k] = [some (.dat (.lst (ns.map .int))), some (.dat (.int k)), none, none, none] := rfl
  obtain ⟨L, hL⟩ : ∃ L, ns.map D.int = L := ⟨_, rfl⟩
  rw [hL] at st hc ⊢
  have S1 : evS g__law_pool (.asg (.name 3) (.blt .max2 [.blt .int [.v 2], .blt .int [.bin .sub (.neg (.c (.int 1))) (.v 2)]])) [some (.dat (.lst L)), some (.dat (.int k)), some (.dat (.int c)), none, none] = .nx [some (.dat (.lst L)), some (.dat (.int k)), some (.dat (.int c)), some (.dat (.int g)), none] := by
    simp [evSs, evS, evs, evr, truR, startE, cellsF, cellF, evq_c, evq_v, evq_bin, evq_cmp, evq_chn, evq_and_, evq_or_, evq_not_, evq_neg, evq_ite, evq_tup, evq_lst, evq_ix, evq_blt, evq_isin, R.bind, R.take, R.toS, SR.seq, takeO, rdO, cellAt, content, truD, runF, outE, lift, gi, hg, binD, sb, bindT, freeB_eq]
  have S2 := pool_mix L k c g 2147483629 2147483647 7919 31 17 48271 m1 m2 m3 m4 md md2
  have S3 (m : Int) : evS g__law_pool (.retl (.lst [.bin .mul (.v 3) (.blt .int [.cmp .ge (.v 3) (.bin .pow (.c (.int 10)) (.c (.int 18)))]), .v 4])) [some (.dat (.lst L)), some (.dat (.int k)), some (.dat (.int c)), some (.dat (.int g)), some (.dat (.int m))] = .rl (src (g * w) m) [some (.dat (.lst L)), some (.dat (.int k)), some (.dat (.int c)), some (.dat (.int g)), some (.dat (.int m))] := by
    simp [evSs, evS, evs, evr, truR, startE, cellsF, cellF, evq_c, evq_v, evq_bin, evq_cmp, evq_chn, evq_and_, evq_or_, evq_not_, evq_neg, evq_ite, evq_tup, evq_lst, evq_ix, evq_blt, evq_isin, R.bind, R.take, R.toS, SR.seq, takeO, rdO, cellAt, content, truD, runF, outE, lift, ↓pow_run, evL, binD, m6, hz, gb, hw, hb, src]
  have T0 : evSs g__law_pool b__law_pool (startE none 5 [D.lst L, D.int k]) = .rl (src (g * w) (((g % 2147483629 + 7919 * k * k + 31 * k + 17) * 48271) % 2147483647)) [some (.dat (.lst L)), some (.dat (.int k)), some (.dat (.int c)), some (.dat (.int g)), some (.dat (.int (((g % 2147483629 + 7919 * k * k + 31 * k + 17) * 48271) % 2147483647)))] := by
    rw [e0, app, st, hc, seq_nx, evSs, S1, seq_nx, evSs, S2, seq_nx, evSs, S3]
    unfold SR.seq
    dsimp only
  have U : f__law_pool.sem [.lst L, .int k] = semBF g__law_pool 5 b__law_pool [.lst L, .int k] := rfl
  rw [U, semBF, T0]
  exact if_pos hb
end Mp
set_option maxHeartbeats 4000000
namespace Mp
open PySem L2
variable [TabsW] [GdW]
/-- a moment's rank: never is behind all -/
def rkM : Option Nat → Int
  | none => 1000000000
  | some n => n
theorem s_rank (m : Option Nat) : f__law_rank.sem [dM m] = .ok (.int (rkM m)) [] := by
  cases m with
  | none => kernel_rfl
  | some n =>
    show semB g__law_rank 1 none b__law_rank [.int n] = _
    have hc : cmpD .is_ (.int (n : Int)) .non = some false := rfl
    have hb : bltD .int [.int (n : Int)] = some (.int n) := rfl
    unfold semB b__law_rank
    simp [evSs, evS, evs, evr, truR, startE, cellsF, cellF, evq_c, evq_v, evq_bin, evq_cmp, evq_chn, evq_and_, evq_or_, evq_not_, evq_neg, evq_ite, evq_tup, evq_lst, evq_ix, evq_blt, evq_isin, R.bind, R.take, R.toS, SR.seq, takeO, rdO, cellAt, content, truD, runF, outE, lift, hc, hb, rkM]
theorem s_lmore (m : Option Nat) (k : Nat) : f__law_more.sem [dM m, .int k] = .ok (dM (m.map (· + k))) [] := by
  cases m with
  | none =>
    show semB g__law_more 2 none b__law_more [.non, .int k] = _
    have hc : cmpD .is_ .non .non = some true := rfl
    unfold semB b__law_more
    simp [evSs, evS, evs, evr, truR, startE, cellsF, cellF, evq_c, evq_v, evq_bin, evq_cmp, evq_chn, evq_and_, evq_or_, evq_not_, evq_neg, evq_ite, evq_tup, evq_lst, evq_ix, evq_blt, evq_isin, R.bind, R.take, R.toS, SR.seq, takeO, rdO, cellAt, content, truD, runF, outE, lift, hc, dM]
  | some n =>
    show semB g__law_more 2 none b__law_more [.int n, .int k] = _
    have hc : cmpD .is_ (.int (n : Int)) .non = some false := rfl
    have ha : addD (.int (n : Int)) (.int (k : Int)) = some (.int ((n + k : Nat) : Int)) := by show some (D.int _) = _; simp
    unfold semB b__law_more
    simp [evSs, evS, evs, evr, truR, startE, cellsF, cellF, evq_c, evq_v, evq_bin, evq_cmp, evq_chn, evq_and_, evq_or_, evq_not_, evq_neg, evq_ite, evq_tup, evq_lst, evq_ix, evq_blt, evq_isin, R.bind, R.take, R.toS, SR.seq, takeO, rdO, cellAt, content, truD, runF, outE, lift, hc, ha, dM, binD]
def srtM (ms : List (Option Nat)) : List (Option Nat) := (sortI (ms.map rkM)).map fun i => if i = 1000000000 then none else some i.toNat
theorem rkM_nonneg (m : Option Nat) : 0 ≤ rkM m := by cases m with
  | none => decide
  | some n => show (0 : Int) ≤ n; omega
theorem intsD_mapI : ∀ ns : List Int, intsD (ns.map D.int) = some ns
  | [] => rfl
  | n :: ns => by
    show (intsD (ns.map D.int)).map (n :: ·) = _
    rw [intsD_mapI ns]; rfl
def rkD : D → D
  | .int i => .int i
  | _ => .int 1000000000
def unD : D → D
  | .int i => if i = 1000000000 then .non else .int i
  | _ => .non
theorem pow9 : powD (.int 10) (.int 9) = some (.int 1000000000) := by kernel_rfl
theorem s_sorted_ (ms : List (Option Nat)) (hl : ms.length ≤ BIG) : f__law_sorted.sem [.lst (ms.map dM)] = .ok (.lst ((srtM ms).map dM)) [] := by
  have L1 : ev g__law_sorted (.lc (.name 2) (.seq (.v 0)) none (.blt .int [.call 0 [.v 2]]) [2]) [some (.dat (.lst (ms.map dM))), none, none] = .ok (.val (.lst ((ms.map rkM).map D.int))) [some (.dat (.lst (ms.map dM))), none, none] := by
    have := ev_lc_run (G := g__law_sorted) (i := 2) (it := .seq (.v 0)) (t := none) (e := .blt .int [.call 0 [.v 2]]) (env := [some (.dat (.lst (ms.map dM))), none, none]) (env0 := [some (.dat (.lst (ms.map dM))), none, none]) (ds := ms.map dM) (fun _ => true) rkD rfl (by simpa using hl) rfl (by simp) (fun d hd => rfl) (fun d hd _ => by
      obtain ⟨m, _, rfl⟩ := List.mem_map.mp hd
      have q := s_rank m
      have b : bltD .int [.int (rkM m)] = some (.int (rkM m)) := rfl
      have e : rkD (dM m) = .int (rkM m) := by cases m <;> rfl
      rw [e]
      simp [evSs, evS, evs, evr, truR, startE, cellsF, cellF, evq_c, evq_v, evq_bin, evq_cmp, evq_chn, evq_and_, evq_or_, evq_not_, evq_neg, evq_ite, evq_tup, evq_lst, evq_ix, evq_blt, evq_isin, R.bind, R.take, R.toS, SR.seq, takeO, rdO, cellAt, content, truD, runF, outE, lift, cl__law_sorted_0, q, b])
    rw [this]
    congr 3
    rw [List.filter_eq_self.mpr (fun _ _ => rfl), List.map_map, List.map_map]
    refine List.map_congr_left fun m _ => ?_
    cases m <;> rfl
  have L2 : ev g__law_sorted (.lc (.name 2) (.seq (.v 1)) none (.ite (.cmp .eq (.v 2) (.bin .pow (.c (.int 10)) (.c (.int 9)))) (.c .non) (.v 2)) [2]) [some (.dat (.lst (ms.map dM))), some (.dat (.lst ((sortI (ms.map rkM)).map D.int))), none] = .ok (.val (.lst ((srtM ms).map dM))) [some (.dat (.lst (ms.map dM))), some (.dat (.lst ((sortI (ms.map rkM)).map D.int))), none] := by
    have hs : (sortI (ms.map rkM)).length = ms.length := by unfold sortI; rw [List.length_mergeSort, List.length_map]
    have := ev_lc_run (G := g__law_sorted) (i := 2) (it := .seq (.v 1)) (t := none) (e := .ite (.cmp .eq (.v 2) (.bin .pow (.c (.int 10)) (.c (.int 9)))) (.c .non) (.v 2)) (env := [some (.dat (.lst (ms.map dM))), some (.dat (.lst ((sortI (ms.map rkM)).map D.int))), none]) (env0 := [some (.dat (.lst (ms.map dM))), some (.dat (.lst ((sortI (ms.map rkM)).map D.int))), none]) (ds := (sortI (ms.map rkM)).map D.int) (fun _ => true) unD rfl (by rw [List.length_map, hs]; exact hl) rfl (by simp) (fun d hd => rfl) (fun d hd _ => by
      obtain ⟨i, _, rfl⟩ := List.mem_map.mp hd
      have hp := pow9
      have hc : cmpD .eq (.int i) (.int 1000000000) = some (decide (i = 1000000000)) := by simp [cmpD, dataD, eqD]; rfl
      have eT : i = 1000000000 → unD (.int i) = .non := fun z => by unfold unD; exact if_pos z
      have eF : ¬ i = 1000000000 → unD (.int i) = .int i := fun z => by unfold unD; exact if_neg z
      generalize (1000000000 : Int) = T at hp hc eT eF
      generalize unD (.int i) = u at eT eF
      generalize ms.map dM = A
      generalize (sortI (ms.map rkM)).map D.int = B
      by_cases z : i = T
      · rw [eT z]
        rw [decide_eq_true z] at hc
        simp [evSs, evS, evs, evr, truR, startE, cellsF, cellF, evq_c, evq_v, evq_bin, evq_cmp, evq_chn, evq_and_, evq_or_, evq_not_, evq_neg, evq_ite, evq_tup, evq_lst, evq_ix, evq_blt, evq_isin, R.bind, R.take, R.toS, SR.seq, takeO, rdO, cellAt, content, truD, runF, outE, lift, hp, hc, binD]
      · rw [eF z]
        rw [decide_eq_false z] at hc
        simp [evSs, evS, evs, evr, truR, startE, cellsF, cellF, evq_c, evq_v, evq_bin, evq_cmp, evq_chn, evq_and_, evq_or_, evq_not_, evq_neg, evq_ite, evq_tup, evq_lst, evq_ix, evq_blt, evq_isin, R.bind, R.take, R.toS, SR.seq, takeO, rdO, cellAt, content, truD, runF, outE, lift, hp, hc, binD])
    rw [this]
    congr 3
    rw [List.filter_eq_self.mpr (fun _ _ => rfl)]
    unfold srtM
    rw [List.map_map, List.map_map]
    refine List.map_congr_left fun i hi => ?_
    have h0 : 0 ≤ i := by
      have := (List.mem_mergeSort).mp hi
      obtain ⟨m, _, rfl⟩ := List.mem_map.mp this
      exact rkM_nonneg m
    show unD (.int i) = dM (if i = 1000000000 then none else some i.toNat)
    unfold unD
    dsimp only
    split
    · rfl
    · show D.int i = D.int (i.toNat : Int)
      rw [Int.toNat_of_nonneg h0]
  have hb : bltD .sorted [.lst ((ms.map rkM).map D.int)] = some (.lst ((sortI (ms.map rkM)).map D.int)) := by
    show (intsD ((ms.map rkM).map D.int)).map _ = _
    rw [intsD_mapI]; rfl
  show semB g__law_sorted 3 none b__law_sorted [.lst (ms.map dM)] = _
  unfold semB b__law_sorted
  generalize (ms.map rkM).map D.int = P1 at L1 hb
  generalize (sortI (ms.map rkM)).map D.int = P2 at L2 hb
  generalize (srtM ms).map dM = P3 at L2 ⊢
  generalize ms.map dM = A at L1 L2 ⊢
  simp [evSs, evS, evs, evr, truR, startE, cellsF, cellF, evq_c, evq_v, evq_bin, evq_cmp, evq_chn, evq_and_, evq_or_, evq_not_, evq_neg, evq_ite, evq_tup, evq_lst, evq_ix, evq_blt, evq_isin, R.bind, R.take, R.toS, SR.seq, takeO, rdO, cellAt, content, truD, runF, outE, lift, L1, hb, L2, bindT, freeB_eq]
theorem srtM_len (ms : List (Option Nat)) : (srtM ms).length = ms.length := by unfold srtM sortI; rw [List.length_map, List.length_mergeSort, List.length_map]
theorem ix_first {x : Option Nat} {l : List (Option Nat)} (hl : l.length < 1000000) : ixD (.lst ((x :: l).map dM)) (.int 0) = some (dM x) := by
  show atI _ _ = _
  unfold atI
  rw [show (0 : Int) = ((0 : Nat) : Int) from rfl, ix_in' (by simp) (by simp only [List.length_map, List.length_cons]; omega)]
  rfl
theorem s_lmin (ms : List (Option Nat)) (hl : ms.length + 1 ≤ BIG) : f__law_min.sem [.lst (ms.map dM)] = .ok (dM (((srtM (ms ++ [none])).head?).join)) [] := by
  have q := s_sorted_ (ms ++ [none]) (by simpa using hl)
  have ha : addD (.lst (ms.map dM)) (.lst [.non]) = some (.lst ((ms ++ [none]).map dM)) := by
    rw [List.map_append]
    exact if_pos (by simpa using hl)
  have hb : bltD .list [.lst (ms.map dM)] = some (.lst (ms.map dM)) := rfl
  have hn := srtM_len (ms ++ [none])
  have hB : BIG = 100000 := rfl
  cases hs : srtM (ms ++ [none]) with
  | nil => rw [hs] at hn; simp at hn
  | cons x l =>
    rw [hs] at q hn
    have hx := ix_first (x := x) (l := l) (by simp at hn; omega)
    generalize (x :: l).map dM = L at q hx
    show semB g__law_min 1 none b__law_min [.lst (ms.map dM)] = _
    unfold semB b__law_min
    generalize (ms ++ [none]).map dM = A at ha q
    generalize ms.map dM = B at ha hb ⊢
    have h1 : (1 : Nat) ≤ BIG := by decide
    simp [evSs, evS, evs, evr, truR, startE, cellsF, cellF, evq_c, evq_v, evq_bin, evq_cmp, evq_chn, evq_and_, evq_or_, evq_not_, evq_neg, evq_ite, evq_tup, evq_lst, evq_ix, evq_blt, evq_isin, R.bind, R.take, R.toS, SR.seq, takeO, rdO, cellAt, content, truD, runF, outE, lift, cl__law_min_0, hb, ha, q, hx, binD, h1]
theorem s_lmax (ms : List (Option Nat)) (hl : ms.length + 1 ≤ BIG) : f__law_max.sem [.lst (ms.map dM)] = .ok (dM (((srtM (some 0 :: ms)).getLast?).join)) [] := by
  have q := s_sorted_ (some 0 :: ms) (by simpa using hl)
  have ha : addD (.lst [.int 0]) (.lst (ms.map dM)) = some (.lst ((some 0 :: ms).map dM)) := if_pos (by simp; omega)
  have hb : bltD .list [.lst (ms.map dM)] = some (.lst (ms.map dM)) := rfl
  have hn := srtM_len (some 0 :: ms)
  obtain ⟨x, h1⟩ : ∃ x, (srtM (some 0 :: ms)).getLast? = some x := by
    cases hh : (srtM (some 0 :: ms)).getLast? with
    | none => rw [List.getLast?_eq_none_iff.mp hh] at hn; simp at hn
    | some p => exact ⟨p, rfl⟩
  have hx : ixD (.lst ((srtM (some 0 :: ms)).map dM)) (.int (-1)) = some (dM x) := by
    show atI _ _ = _
    rw [last_at _ (by intro z; rw [List.map_eq_nil_iff] at z; rw [z] at hn; simp at hn), List.getLast?_map, h1]
    rfl
  rw [h1]
  generalize (srtM (some 0 :: ms)).map dM = L at q hx
  show semB g__law_max 1 none b__law_max [.lst (ms.map dM)] = _
  unfold semB b__law_max
  generalize (some 0 :: ms).map dM = A at ha q
  generalize ms.map dM = B at ha hb ⊢
  have h2 : (1 : Nat) ≤ BIG := by decide
  simp [evSs, evS, evs, evr, truR, startE, cellsF, cellF, evq_c, evq_v, evq_bin, evq_cmp, evq_chn, evq_and_, evq_or_, evq_not_, evq_neg, evq_ite, evq_tup, evq_lst, evq_ix, evq_blt, evq_isin, R.bind, R.take, R.toS, SR.seq, takeO, rdO, cellAt, content, truD, runF, outE, lift, cl__law_max_0, hb, ha, q, hx, binD, h2]
end Mp
set_option maxHeartbeats 4000000
namespace Mp
/-- all told ones are below the rank of never -/
def Sm (B : Nat) (ms : List (Option Nat)) : Prop := ∀ m, m ∈ ms → ∀ a, m = some a → a ≤ B
theorem rk_perm : ∀ ms : List (Option Nat), (ms.map rkM).Perm (((ms.filterMap id).map fun n : Nat => (n : Int)) ++ List.replicate (ms.length - (ms.filterMap id).length) 1000000000)
  | [] => .nil
  | none :: ms => by
    have e : (none :: ms).filterMap id = ms.filterMap id := rfl
    have hl := List.length_filterMap_le id ms
    rw [e, List.map_cons, List.length_cons, Nat.succ_sub hl, List.replicate_succ']
    refine ((rk_perm ms).cons _).trans ?_
    rw [← List.append_assoc]
    exact (List.perm_append_singleton _ _).symm
  | some a :: ms => by
    have e : (some a :: ms).filterMap id = a :: ms.filterMap id := rfl
    rw [e, List.map_cons, List.length_cons, List.length_cons, Nat.add_sub_add_right]
    exact (rk_perm ms).cons _
theorem srtM_eq (ms : List (Option Nat)) (hs : Sm 999999999 ms) : srtM ms = (srt ms).map some ++ List.replicate (ms.length - (srt ms).length) none := by
  have hS : sortI (ms.map rkM) = ((srt ms).map fun n : Nat => (n : Int)) ++ List.replicate (ms.length - (srt ms).length) 1000000000 := by
    have sb : ∀ x, x ∈ srt ms → x ≤ 999999999 := fun x hx => by
      obtain ⟨m, hm, e⟩ := List.mem_filterMap.mp (List.mem_mergeSort.mp hx)
      exact hs m hm x e
    have sl : (srt ms).length = (ms.filterMap id).length := List.length_mergeSort _
    refine List.Perm.eq_of_pairwise (le := (· ≤ ·)) (fun a b _ _ h1 h2 => Int.le_antisymm h1 h2) ?_ ?_ ?_
    · have := List.pairwise_mergeSort (le := fun a b : Int => decide (a ≤ b)) (by intro a b c; simp; omega) (by intro a b; simp; omega) (ms.map rkM)
      exact this.imp fun h => by simpa using h
    · rw [List.pairwise_append]
      refine ⟨?_, ?_, ?_⟩
      · rw [List.pairwise_map]
        exact (srt_sorted ms).imp fun h => by omega
      · rw [List.pairwise_replicate]; exact .inr (by omega)
      · intro x hx y hy
        obtain ⟨n, hn, rfl⟩ := List.mem_map.mp hx
        have := sb n hn
        have := (List.mem_replicate.mp hy).2
        omega
    · refine (List.mergeSort_perm _ _).trans ((rk_perm ms).trans ?_)
      rw [sl]
      exact (((List.mergeSort_perm _ _).symm).map _).append_right _
  have sb : ∀ x, x ∈ srt ms → x ≤ 999999999 := fun x hx => by
    obtain ⟨m, hm, e⟩ := List.mem_filterMap.mp (List.mem_mergeSort.mp hx)
    exact hs m hm x e
  unfold srtM
  rw [hS, List.map_append, List.map_map, List.map_replicate]
  congr 1
  refine List.map_congr_left fun n hn => ?_
  have := sb n hn
  show (if (n : Int) = 1000000000 then none else some (n : Int).toNat) = some n
  rw [if_neg (by omega), Int.toNat_natCast]
theorem srtM_nth (ms : List (Option Nat)) (hs : Sm 999999999 ms) (k : Nat) : ((srtM ms)[k]?).join = (srt ms)[k]? := by
  rw [srtM_eq ms hs]
  by_cases h : k < (srt ms).length
  · rw [List.getElem?_append_left (by rw [List.length_map]; exact h), List.getElem?_map, List.getElem?_eq_getElem h]; rfl
  · rw [List.getElem?_append_right (by rw [List.length_map]; omega), List.getElem?_eq_none (by omega : (srt ms).length ≤ k), List.getElem?_replicate]
    split <;> rfl
theorem eq_at {a b : Option Nat} (h : ∀ y, atM a y ↔ atM b y) : a = b := by
  cases a with
  | none => cases b with
    | none => rfl
    | some b => obtain ⟨c, e, _⟩ := (h b).mpr ⟨b, rfl, Nat.le_refl _⟩; cases e
  | some a => cases b with
    | none => obtain ⟨c, e, _⟩ := (h a).mp ⟨a, rfl, Nat.le_refl _⟩; cases e
    | some b =>
      obtain ⟨c, e, k⟩ := (h a).mp ⟨a, rfl, Nat.le_refl _⟩; cases e
      obtain ⟨c, e, k2⟩ := (h b).mpr ⟨b, rfl, Nat.le_refl _⟩; cases e
      congr 1; omega
theorem cnt_cons (m : Option Nat) (ms : List (Option Nat)) (y : Nat) : cnt (m :: ms) y = cnt ms y + (if atM m y then 1 else 0) := by
  unfold cnt
  rw [List.countP_cons]
  by_cases h : atM m y
  · rw [if_pos (decide_eq_true h), if_pos h]
  · rw [if_neg (by simpa using h), if_neg h]
theorem lmax_eq (ms : List (Option Nat)) (hs : Sm 999999999 ms) : ((srtM (some 0 :: ms)).getLast?).join = greM ms := by
  have h0 : Sm 999999999 (some 0 :: ms) := fun m hm a e => by
    rcases List.mem_cons.mp hm with rfl | hm
    · cases e; omega
    · exact hs m hm a e
  have hl : (srtM (some 0 :: ms)).length = ms.length + 1 := by unfold srtM sortI; rw [List.length_map, List.length_mergeSort, List.length_map]; rfl
  rw [List.getLast?_eq_getElem?, hl, Nat.add_sub_cancel, srtM_nth _ h0]
  have e : (srt (some 0 :: ms))[ms.length]? = nthM (some 0 :: ms) (ms.length + 1) := rfl
  rw [e]
  refine eq_at fun y => ?_
  have h00 : atM (some 0) y := ⟨0, rfl, Nat.zero_le _⟩
  rw [nth_at _ _ _ (by omega), cnt_cons, if_pos h00]
  unfold greM
  cases ms with
  | nil => rw [if_pos rfl]; exact ⟨fun _ => h00, fun _ => by simp⟩
  | cons m ms => rw [if_neg (by simp), nth_at _ _ _ (by simp)]; omega
theorem nth_mem {ms : List (Option Nat)} {n a : Nat} (h : nthM ms n = some a) : some a ∈ ms := by
  unfold nthM at h
  have := List.mem_of_getElem? h
  obtain ⟨m, hm, e⟩ := List.mem_filterMap.mp (List.mem_mergeSort.mp this)
  have e' : m = some a := e
  rw [← e']; exact hm
theorem gre_le {ms : List (Option Nat)} {B a : Nat} (hs : Sm B ms) (h : greM ms = some a) : a ≤ B := by
  unfold greM at h
  split at h
  · cases h; omega
  · exact hs _ (nth_mem h) a rfl
theorem add_le {a : Option Nat} {B n x : Nat} (ha : ∀ x, a = some x → x ≤ B) (h : a.map (· + n) = some x) : x ≤ B + n := by
  cases a with
  | none => cases h
  | some a => cases h; have := ha a rfl; show a + n ≤ _; omega
end Mp
set_option maxHeartbeats 4000000
namespace Mp
open PySem L2
variable [TabsW] [GdW]
theorem q_lmax (ms : List (Option Nat)) (hs : Sm 999999999 ms) (hl : ms.length + 1 ≤ BIG) : f__law_max.sem [.lst (ms.map dM)] = .ok (dM (greM ms)) [] := by
  rw [s_lmax ms hl, lmax_eq ms hs]
theorem data_dM {n : Nat} (m : Option Nat) : dataD n (dM m) = true := by
  cases m with
  | none => exact dataD_non
  | some m => exact dataD_int
theorem data_dP {n : Nat} (p : Option Nat × Option Nat) : dataD (n + 1) (dP p) = true := dataD_tup fun d hd => by
  simp only [List.mem_cons, List.not_mem_nil, or_false] at hd
  rcases hd with rfl | rfl <;> exact data_dM _
theorem data_dR (r : Row) : dataD 20 (dR r) = true := dataD_lst fun d hd => by
  obtain ⟨p, _, rfl⟩ := List.mem_map.mp hd
  exact data_dP p
def SrcS (u : List D) : Prop := ∃ a b, u = src a b
theorem s_moment' (a b : Int) (t : Nat) (h0 : 0 < t) (h1 : t < 1073741824) : ∃ (m : Option Nat) (a' b' : Int), (∀ x, m = some x → x < t) ∧ f__law_moment.sem [.lst (src a b), .int t] = .ok (dM m) (src a' b') := by
  obtain ⟨d, a1, b1, hd, h⟩ := s_take a b 9 (by decide) (by decide)
  have C := io_call (G := g__law_moment) (j := 0) (i := 0) (f := f__law_take) (es := [.c (.int 9)]) (env := [some (.io (src a b)), some (.dat (.int t))]) rfl rfl rfl rfl rfl rfl h
  by_cases hz : d = 0
  · subst hz
    refine ⟨none, a1, b1, (fun x z => nomatch z), ?_⟩
    show semB g__law_moment 2 (some 0) b__law_moment [.lst (src a b), .int t] = _
    unfold semB b__law_moment
    have hc : cmpD .eq (.int 0) (.int 0) = some true := rfl
    generalize src a b = s at C ⊢
    simp [evSs, evS, evs, evr, truR, startE, cellsF, cellF, evq_c, evq_v, evq_bin, evq_cmp, evq_chn, evq_and_, evq_or_, evq_not_, evq_neg, evq_ite, evq_tup, evq_lst, evq_ix, evq_blt, evq_isin, R.bind, R.take, R.toS, SR.seq, takeO, rdO, cellAt, content, truD, runF, outE, lift, C, hc, dM]
  · obtain ⟨e, a2, b2, he, h2⟩ := s_take a1 b1 t h0 h1
    have C2 := io_call (G := g__law_moment) (j := 0) (i := 0) (f := f__law_take) (es := [.v 1]) (env := [some (.io (src a1 b1)), some (.dat (.int t))]) rfl rfl rfl rfl rfl rfl h2
    refine ⟨some e, a2, b2, (fun x z => by cases z; exact he), ?_⟩
    show semB g__law_moment 2 (some 0) b__law_moment [.lst (src a b), .int t] = _
    unfold semB b__law_moment
    have hc : cmpD .eq (.int (d : Int)) (.int 0) = some false := by simp [cmpD, dataD, eqD, hz]
    generalize src a b = s at C ⊢
    generalize src a1 b1 = s1 at C C2 ⊢
    simp [evSs, evS, evs, evr, truR, startE, cellsF, cellF, evq_c, evq_v, evq_bin, evq_cmp, evq_chn, evq_and_, evq_or_, evq_not_, evq_neg, evq_ite, evq_tup, evq_lst, evq_ix, evq_blt, evq_isin, R.bind, R.take, R.toS, SR.seq, takeO, rdO, cellAt, content, truD, runF, outE, lift, C, C2, hc, dM]
theorem s_oneN (a b : Int) (ns : List Nat) (h0 : 0 < ns.length) (h1 : ns.length < 1073741824) : ∃ (n : Nat) (a' b' : Int), n ∈ ns ∧ f__law_one.sem [.lst (src a b), .lst (ns.map fun n : Nat => D.int n)] = .ok (.int n) (src a' b') := by
  obtain ⟨d, a', b', hd, h⟩ := s_one a b (ns.map fun n : Nat => D.int n) (by simpa using h0) (by simpa using h1)
  obtain ⟨n, hn, rfl⟩ := List.mem_map.mp hd
  exact ⟨n, a', b', hn, h⟩
end Mp
set_option maxHeartbeats 4000000
namespace Mp
open PySem L2
theorem filt_head (n t a b : Nat) : ((List.range' a (b + 1 - a)).filter fun m => decide (t ≤ m) && decide (m + n ≤ b)).head? = if max a t + n ≤ b then some (max a t) else none := by
  rw [List.head?_filter]
  by_cases h : max a t + n ≤ b
  · rw [if_pos h, List.find?_range'_eq_some]
    refine ⟨by simp; omega, by simp [List.mem_range'_1]; omega, fun j h1 h2 => by simp; omega⟩
  · rw [if_neg h, List.find?_eq_none]
    intro m hm
    have := List.mem_range'_1.mp hm
    simp; omega
theorem cnt_le (ms : List (Option Nat)) (y : Nat) : cnt ms y ≤ ms.length := List.countP_le_length
theorem cnt_app (as bs : List (Option Nat)) (y : Nat) : cnt (as ++ bs) y = cnt as y + cnt bs y := List.countP_append
theorem cnt_none (n : Nat) (y : Nat) : cnt (List.replicate n none) y = 0 := by
  unfold cnt
  rw [List.countP_eq_zero]
  intro m hm
  rw [(List.mem_replicate.mp hm).2]
  have : ¬ atM none y := by rintro ⟨_, h, _⟩; cases h
  simpa using this
theorem cnt_some (l : List Nat) (y : Nat) : cnt (l.map some) y = l.countP fun a => decide (a ≤ y) := by
  unfold cnt
  rw [List.countP_map]
  congr 1
  funext a
  show decide (atM (some a) y) = decide (a ≤ y)
  have : atM (some a) y ↔ a ≤ y := ⟨fun ⟨c, e, k⟩ => by cases e; exact k, fun k => ⟨a, rfl, k⟩⟩
  simp [this]
theorem cnt_srtM (ms : List (Option Nat)) (hs : Sm 999999999 ms) (y : Nat) : cnt (srtM ms) y = cnt ms y := by
  rw [srtM_eq ms hs, cnt_app, cnt_none, cnt_some, Nat.add_zero, cnt_told]
  exact (List.mergeSort_perm _ _).countP_eq _
theorem srtM_head (ms : List (Option Nat)) (hs : Sm 999999999 ms) (y : Nat) : atM ((srtM ms).head?.join) y ↔ 1 ≤ cnt ms y := by
  rw [List.head?_eq_getElem?, srtM_nth ms hs]
  have e : (srt ms)[0]? = nthM ms 1 := rfl
  rw [e, nth_at _ _ _ (by omega)]
theorem cnt_drop (ms : List (Option Nat)) (hs : Sm 999999999 ms) (y : Nat) : cnt ((srtM ms).drop 1) y = cnt ms y - 1 := by
  have h1 := cnt_srtM ms hs y
  have h2 := srtM_head ms hs y
  cases hq : srtM ms with
  | nil => rw [hq] at h1; rw [← h1]; rfl
  | cons x l =>
    rw [hq] at h1 h2
    rw [cnt_cons] at h1
    have h2 : atM x y ↔ 1 ≤ cnt ms y := h2
    show cnt l y = _
    by_cases hx : atM x y
    · rw [if_pos hx] at h1; omega
    · rw [if_neg hx] at h1
      have : ¬ 1 ≤ cnt ms y := fun z => hx (h2.mpr z)
      omega
theorem srtM_sm {B : Nat} {ms : List (Option Nat)} (hs : Sm B ms) (hB : B ≤ 999999999) : Sm B (srtM ms) := by
  have h9 : Sm 999999999 ms := fun m hm a e => Nat.le_trans (hs m hm a e) hB
  rw [srtM_eq ms h9]
  intro m hm a e
  rcases List.mem_append.mp hm with hm | hm
  · obtain ⟨x, hx, rfl⟩ := List.mem_map.mp hm
    cases e
    obtain ⟨m, hm, e⟩ := List.mem_filterMap.mp (List.mem_mergeSort.mp hx)
    exact hs m hm a e
  · rw [(List.mem_replicate.mp hm).2] at e; cases e
/-- the desks' free minutes are the so many latest ends -/
structure Desk (k : Nat) (free ends : List (Option Nat)) : Prop where
  len : free.length = k
  cnt : ∀ y, cnt free y = k - (ends.length - cnt ends y)
theorem Desk.start (k : Nat) : Desk k (List.replicate k (some 0)) [] := by
  refine ⟨by simp, fun y => ?_⟩
  have e : List.replicate k (some 0) = (List.replicate k 0).map some := by simp
  rw [e, cnt_some, List.countP_replicate]
  simp
theorem Desk.min {k : Nat} {free ends : List (Option Nat)} (h : Desk k free ends) (hk : 1 ≤ k) : nthM free 1 = deskM ends k := by
  refine eq_at fun y => ?_
  have c := cnt_le ends y
  rw [nth_at _ _ _ (by omega), h.cnt]
  unfold deskM
  by_cases z : ends.length < k
  · rw [if_pos z]
    exact ⟨fun _ => ⟨0, rfl, Nat.zero_le _⟩, fun _ => by omega⟩
  · rw [if_neg z, nth_at _ _ _ (by omega)]
    omega
theorem Desk.next {k : Nat} {free ends : List (Option Nat)} {e : Option Nat} (h : Desk k free ends) (hk : 1 ≤ k) (hs : Sm 999999999 free) (he : ∀ y, atM e y → atM (nthM free 1) y) : Desk k ((srtM free).drop 1 ++ [e]) (ends ++ [e]) := by
  have ls : (srtM free).length = free.length := by unfold srtM sortI; rw [List.length_map, List.length_mergeSort, List.length_map]
  refine ⟨by rw [List.length_append, List.length_drop, ls, h.len]; simp; omega, fun y => ?_⟩
  have c := cnt_le ends y
  have q := he y
  rw [nth_at _ _ _ (by omega), h.cnt] at q
  rw [cnt_app, cnt_drop free hs, h.cnt, cnt_app, List.length_append, cnt_cons]
  have e0 : Mp.cnt [] y = 0 := rfl
  rw [e0]
  by_cases z : atM e y
  · have := q z
    rw [if_pos z]; simp; omega
  · rw [if_neg z]; simp; omega
theorem gate_ge {o : Option (List (Nat × Nat))} {n : Nat} {t : Option Nat} {y : Nat} (h : atM (gateM o n t) y) : atM t y := by
  cases t with
  | none => exact h
  | some t =>
    cases o with
    | none => exact h
    | some ss =>
      have go : ∀ ss, atM (gateL n t ss) y → t ≤ y := by
        intro ss
        induction ss with
        | nil => rintro ⟨_, h, _⟩; cases h
        | cons s ss ih =>
          intro h
          unfold gateL at h
          split at h
          · obtain ⟨a, e, k⟩ := h; cases e; omega
          · exact ih h
      exact ⟨t, rfl, go ss h⟩
theorem gre_three {a b c : Option Nat} {y : Nat} (h : atM (greM [a, b, c]) y) : atM c y := by
  unfold greM at h
  rw [if_neg (by simp), nth_at _ _ _ (by simp), cnt_cons, cnt_cons, cnt_cons] at h
  have e : cnt [] y = 0 := rfl
  rw [e] at h
  by_cases hc : atM c y
  · exact hc
  · rw [if_neg hc] at h
    exfalso
    have h1 : (if atM a y then 1 else 0) ≤ 1 := by split <;> omega
    have h2 : (if atM b y then 1 else 0) ≤ 1 := by split <;> omega
    simp only [List.length_cons, List.length_nil] at h
    omega
theorem add_at {e : Option Nat} {n y : Nat} (h : atM (e.map (· + n)) y) : atM e y := by
  cases e with
  | none => exact h
  | some a =>
    obtain ⟨c, e, k⟩ := h; cases e
    have k : a + n ≤ y := k
    exact ⟨a, rfl, by omega⟩
/-- how far a gate comes -/
theorem gate_le {o : Option (List (Nat × Nat))} (ho : GoodO o) {n : Nat} {t : Option Nat} {B : Nat} (hB : 9999 ≤ B) (ht : ∀ x, t = some x → x ≤ B) (x : Nat) (h : gateM o n t = some x) : x ≤ B := by
  cases t with
  | none => cases h
  | some t =>
    cases o with
    | none => exact ht x h
    | some ss =>
      have h2 : ∀ s, s ∈ ss → s.2 ≤ 9999 := fun s hs => (ho.2.1 s hs).2
      have go : ∀ ss : List (Nat × Nat), (∀ s, s ∈ ss → s.2 ≤ 9999) → gateL n t ss = some x → x ≤ B := by
        intro ss
        induction ss with
        | nil => intro _ h; cases h
        | cons s ss ih =>
          intro hs h
          unfold gateL at h
          split at h
          · cases h; have := hs s List.mem_cons_self; omega
          · exact ih (fun s z => hs s (List.mem_cons_of_mem _ z)) h
      exact go ss h2 h
variable [TabsW] [GdW]
theorem q_lmin' (ms : List (Option Nat)) (hs : Sm 999999999 ms) (hl : ms.length + 1 ≤ BIG) : f__law_min.sem [.lst (ms.map dM)] = .ok (dM (nthM ms 1)) [] := by
  have q := s_lmin ms hl
  have h0 : Sm 999999999 (ms ++ [none]) := fun m hm c e => by
    rcases List.mem_append.mp hm with hm | hm
    · exact hs m hm c e
    · rw [List.mem_singleton.mp hm] at e; cases e
  have e : ((srtM (ms ++ [none])).head?).join = nthM ms 1 := by
    refine eq_at fun y => ?_
    have z : cnt [none] y = 0 := cnt_none 1 y
    rw [srtM_head _ h0, nth_at _ _ _ (by omega), cnt_app, z, Nat.add_zero]
  rw [e] at q
  exact q
def bLG : List ST := [.asg (.name 5) (.lc (.name 6) (.rng2 (.v 3) (.bin .add (.v 4) (.c (.int 1)))) (some (.and_ (.cmp .ge (.v 6) (.v 2)) (.cmp .le (.bin .add (.v 6) (.v 1)) (.v 4)))) (.v 6) [6]), .if_ (.cmp .ne (.v 5) (.lst [])) [.ret (.ix (.v 5) (.c (.int 0)))] []]
def envG (S : D) (n t : Nat) (x3 x4 x5 : Option Cell) : Env := [some (.dat S), some (.dat (.int n)), some (.dat (.int t)), x3, x4, x5, none]
theorem lg_turn (S : D) (n t : Nat) (s : Nat × Nat) (h2 : s.2 ≤ 9999) (h1 : s.1 ≤ s.2) (x5 : Option Cell) (h5 : frC x5 = true) :
    (max s.1 t + n ≤ s.2 → ∃ y5, evSs g__law_gate bLG (envG S n t (some (.dat (.int s.1))) (some (.dat (.int s.2))) x5) = .rt (.int ((max s.1 t : Nat) : Int)) (envG S n t (some (.dat (.int s.1))) (some (.dat (.int s.2))) y5)) ∧
    (¬ max s.1 t + n ≤ s.2 → ∃ y5, frC y5 = true ∧ evSs g__law_gate bLG (envG S n t (some (.dat (.int s.1))) (some (.dat (.int s.2))) x5) = .nx (envG S n t (some (.dat (.int s.1))) (some (.dat (.int s.2))) y5)) := by
  obtain ⟨a, b⟩ := s
  have fh := filt_head n t a b
  obtain ⟨L, hL⟩ : ∃ L, (List.range' a (b + 1 - a)).filter (fun m => decide (t ≤ m) && decide (m + n ≤ b)) = L := ⟨_, rfl⟩
  have RE1 : ev g__law_gate (.lc (.name 6) (.rng2 (.v 3) (.bin .add (.v 4) (.c (.int 1)))) (some (.and_ (.cmp .ge (.v 6) (.v 2)) (.cmp .le (.bin .add (.v 6) (.v 1)) (.v 4)))) (.v 6) [6]) (envG S n t (some (.dat (.int a))) (some (.dat (.int b))) x5) = .ok (.val (.lst (L.map fun m : Nat => D.int (m : Int)))) (envG S n t (some (.dat (.int a))) (some (.dat (.int b))) x5) := by
    rw [← hL]
    have E : evi g__law_gate (.rng2 (.v 3) (.bin .add (.v 4) (.c (.int 1)))) (envG S n t (some (.dat (.int a))) (some (.dat (.int b))) x5) = .ok ((List.range' a (b + 1 - a)).map fun m : Nat => D.int (m : Int)) (envG S n t (some (.dat (.int a))) (some (.dat (.int b))) x5) := by
      rw [← show iotaD (a : Int) (b + 1 - a) = _ from iota_map' a (b + 1 - a)]
      have e : (((b : Int) + 1) - (a : Int)).toNat = b + 1 - a := by omega
      have ad : addD (.int (b : Int)) (.int 1) = some (.int ((b : Int) + 1)) := rfl
      have hb9 : b ≤ 9999 := h2
      have hab : a ≤ b := h1
      have hc : -1000000 ≤ (a : Int) ∧ (a : Int) ≤ 1000000 ∧ -1000000 ≤ (b : Int) + 1 ∧ (b : Int) + 1 ≤ 1000000 := by omega
      have A1 : (ev g__law_gate (.v 3) (envG S n t (some (.dat (.int a))) (some (.dat (.int b))) x5)).rd = .ok (.int a) (envG S n t (some (.dat (.int a))) (some (.dat (.int b))) x5) := by
        unfold envG
        simp [evSs, evS, evs, evr, truR, startE, cellsF, cellF, evq_c, evq_v, evq_bin, evq_cmp, evq_chn, evq_and_, evq_or_, evq_not_, evq_neg, evq_ite, evq_tup, evq_lst, evq_ix, evq_blt, evq_isin, R.bind, R.take, R.toS, SR.seq, takeO, rdO, cellAt, content, truD, runF, outE, lift, R.rd]
      have A2 : (ev g__law_gate (.bin .add (.v 4) (.c (.int 1))) (envG S n t (some (.dat (.int a))) (some (.dat (.int b))) x5)).rd = .ok (.int ((b : Int) + 1)) (envG S n t (some (.dat (.int a))) (some (.dat (.int b))) x5) := by
        unfold envG
        simp [evSs, evS, evs, evr, truR, startE, cellsF, cellF, evq_c, evq_v, evq_bin, evq_cmp, evq_chn, evq_and_, evq_or_, evq_not_, evq_neg, evq_ite, evq_tup, evq_lst, evq_ix, evq_blt, evq_isin, R.bind, R.take, R.toS, SR.seq, takeO, rdO, cellAt, content, truD, runF, outE, lift, R.rd, binD, ad]
      rw [evi, A1, R.bind_ok, A2, R.bind_ok]
      show (if -1000000 ≤ (a : Int) ∧ (a : Int) ≤ 1000000 ∧ -1000000 ≤ (b : Int) + 1 ∧ (b : Int) + 1 ≤ 1000000 then R.ok (iotaD (a : Int) (((b : Int) + 1) - (a : Int)).toNat) _ else .bad) = _
      rw [if_pos hc, e]
    refine ev_lc_filt (f := fun m : Nat => D.int (m : Int)) (fun m => decide (t ≤ m) && decide (m + n ≤ b)) E (by have hB : BIG = 100000 := rfl; have hb9 : b ≤ 9999 := h2; rw [List.length_range']; omega) rfl (by simp [envG]) (fun m hm => ?_) fun m hm _ => ?_
    · have g1 : cmpD .ge (.int (m : Int)) (.int (t : Int)) = some (decide (t ≤ m)) := by show some (decide _) = _; congr 1; simp
      have g2 : cmpD .le (.int ((m + n : Nat) : Int)) (.int (b : Int)) = some (decide (m + n ≤ b)) := by show some (decide _) = _; congr 1; simp; omega
      have ad : addD (.int (m : Int)) (.int (n : Int)) = some (.int ((m + n : Nat) : Int)) := by show some (D.int _) = _; simp
      generalize decide (t ≤ m) = p1 at *
      generalize decide (m + n ≤ b) = p2 at *
      generalize ((m + n : Nat) : Int) = mn at *
      unfold envG
      cases p1 <;> cases p2 <;> simp [evSs, evS, evs, evr, truR, startE, cellsF, cellF, evq_c, evq_v, evq_bin, evq_cmp, evq_chn, evq_and_, evq_or_, evq_not_, evq_neg, evq_ite, evq_tup, evq_lst, evq_ix, evq_blt, evq_isin, R.bind, R.take, R.toS, SR.seq, takeO, rdO, cellAt, content, truD, runF, outE, lift, g1, g2, binD, ad]
    · rfl
  have T1 : evS g__law_gate (.asg (.name 5) (.lc (.name 6) (.rng2 (.v 3) (.bin .add (.v 4) (.c (.int 1)))) (some (.and_ (.cmp .ge (.v 6) (.v 2)) (.cmp .le (.bin .add (.v 6) (.v 1)) (.v 4)))) (.v 6) [6])) (envG S n t (some (.dat (.int a))) (some (.dat (.int b))) x5) = .nx (envG S n t (some (.dat (.int a))) (some (.dat (.int b))) (some (.dat (.lst (L.map fun m : Nat => D.int (m : Int)))))) := by
    generalize L.map (fun m : Nat => D.int (m : Int)) = LL at *
    generalize IR.lc (.name 6) (.rng2 (.v 3) (.bin .add (.v 4) (.c (.int 1)))) (some (.and_ (.cmp .ge (.v 6) (.v 2)) (.cmp .le (.bin .add (.v 6) (.v 1)) (.v 4)))) (.v 6) [6] = I at *
    unfold envG at RE1 ⊢
    simp [evSs, evS, evs, evr, truR, startE, cellsF, cellF, evq_c, evq_v, evq_bin, evq_cmp, evq_chn, evq_and_, evq_or_, evq_not_, evq_neg, evq_ite, evq_tup, evq_lst, evq_ix, evq_blt, evq_isin, R.bind, R.take, R.toS, SR.seq, takeO, rdO, cellAt, content, truD, runF, outE, lift, RE1, bindT, freeB_eq, h5]
  rw [hL] at fh
  refine ⟨fun hp => ?_, fun hp => ?_⟩
  · have hp : max a t + n ≤ b := hp
    rw [if_pos hp] at fh
    cases hq : L with
    | nil => rw [hq] at fh; cases fh
    | cons m l =>
      rw [hq] at fh T1
      cases fh
      refine ⟨some (.dat (.lst ((max a t :: l).map fun m : Nat => D.int (m : Int)))), ?_⟩
      have c1 : cmpD .ne (.lst ((max a t :: l).map fun m : Nat => D.int (m : Int))) (.lst []) = some true := by
        have d1 : dataD 20 (.lst ((max a t :: l).map fun m : Nat => D.int (m : Int))) = true := dataD_lst fun d hd => by
          obtain ⟨m, _, rfl⟩ := List.mem_map.mp hd
          exact dataD_int
        show (if dataD 20 (.lst ((max a t :: l).map fun m : Nat => D.int (m : Int))) && dataD 20 (.lst []) then some (!eqD (.lst ((max a t :: l).map fun m : Nat => D.int (m : Int))) (.lst [])) else none) = _
        rw [d1]
        rfl
      have i1 : ixD (.lst ((max a t :: l).map fun m : Nat => D.int (m : Int))) (.int 0) = some (.int ((max a t : Nat) : Int)) := at_map (fun m : Nat => D.int (m : Int)) (max a t :: l) 0 (max a t) rfl
      generalize (max a t :: l).map (fun m : Nat => D.int (m : Int)) = LL at *
      unfold bLG
      rw [evSs, T1, seq_nx]
      unfold envG
      generalize ((max a t : Nat) : Int) = mx at *
      have hb : 0 ≤ BIG := by decide
      simp [evSs, evS, evs, evr, truR, startE, cellsF, cellF, evq_c, evq_v, evq_bin, evq_cmp, evq_chn, evq_and_, evq_or_, evq_not_, evq_neg, evq_ite, evq_tup, evq_lst, evq_ix, evq_blt, evq_isin, R.bind, R.take, R.toS, SR.seq, takeO, rdO, cellAt, content, truD, runF, outE, lift, c1, i1, hb]
  · have hp : ¬ max a t + n ≤ b := hp
    rw [if_neg hp] at fh
    have hq : L = [] := by cases L with
      | nil => rfl
      | cons _ _ => cases fh
    rw [hq] at T1
    refine ⟨some (.dat (.lst [])), rfl, ?_⟩
    have c1 : cmpD .ne (.lst []) (.lst []) = some false := by kernel_rfl
    unfold bLG
    rw [evSs, T1, seq_nx]
    unfold envG
    have hb : 0 ≤ BIG := by decide
    simp [evSs, evS, evs, evr, truR, startE, cellsF, cellF, evq_c, evq_v, evq_bin, evq_cmp, evq_chn, evq_and_, evq_or_, evq_not_, evq_neg, evq_ite, evq_tup, evq_lst, evq_ix, evq_blt, evq_isin, R.bind, R.take, R.toS, SR.seq, takeO, rdO, cellAt, content, truD, runF, outE, lift, c1, hb]
theorem lg_loop (S : D) (n t : Nat) : ∀ (ss : List (Nat × Nat)) (x3 x4 x5 : Option Cell), (∀ s, s ∈ ss → s.1 ≤ s.2 ∧ s.2 ≤ 9999) → frC x3 = true → frC x4 = true → frC x5 = true →
    (∃ y3 y4 y5, gateL n t ss = none ∧ forL (.tup [3, 4]) (fun e => evSs g__law_gate bLG e) (dS ss) (envG S n t x3 x4 x5) = .nx (envG S n t y3 y4 y5)) ∨ ∃ x e, gateL n t ss = some x ∧ forL (.tup [3, 4]) (fun e => evSs g__law_gate bLG e) (dS ss) (envG S n t x3 x4 x5) = .rt (.int (x : Int)) e
  | [], x3, x4, x5, _, _, _, _ => .inl ⟨x3, x4, x5, rfl, rfl⟩
  | s :: ss, x3, x4, x5, h, h3, h4, h5 => by
    obtain ⟨g1, g2⟩ := h s List.mem_cons_self
    obtain ⟨t1, t2⟩ := lg_turn S n t s g2 g1 x5 h5
    have hb : bindT (.tup [3, 4]) (.tup [.int s.1, .int s.2]) (envG S n t x3 x4 x5) = some (envG S n t (some (.dat (.int s.1))) (some (.dat (.int s.2))) x5) := by
      unfold bindT envG
      simp [freeB_eq, h3, h4]
    have hd : dS (s :: ss) = .tup [.int s.1, .int s.2] :: dS ss := rfl
    by_cases hp : max s.1 t + n ≤ s.2
    · obtain ⟨y5, e⟩ := t1 hp
      refine .inr ⟨max s.1 t, envG S n t (some (.dat (.int s.1))) (some (.dat (.int s.2))) y5, ?_, ?_⟩
      · unfold gateL
        rw [if_pos hp]
      · rw [hd, forL, hb]
        dsimp only
        rw [e]
    · obtain ⟨y5, hy, e⟩ := t2 hp
      have eg : gateL n t (s :: ss) = gateL n t ss := by
        conv => lhs; unfold gateL
        rw [if_neg hp]
      rw [eg, hd, forL, hb]
      dsimp only
      rw [e]
      exact lg_loop S n t ss (some (.dat (.int s.1))) (some (.dat (.int s.2))) y5 (fun s z => h s (List.mem_cons_of_mem _ z)) rfl rfl hy
theorem s_lgate (o : Option (List (Nat × Nat))) (ho : GoodO o) (n : Nat) (t : Option Nat) : f__law_gate.sem [dSl o, .int n, dM t] = .ok (dM (gateM o n t)) [] := by
  show semB g__law_gate 7 none b__law_gate [dSl o, .int n, dM t] = _
  cases t with
  | none =>
    have c1 : cmpD .is_ .non .non = some true := rfl
    unfold semB b__law_gate
    generalize dSl o = S
    simp [evSs, evS, evs, evr, truR, startE, cellsF, cellF, evq_c, evq_v, evq_bin, evq_cmp, evq_chn, evq_and_, evq_or_, evq_not_, evq_neg, evq_ite, evq_tup, evq_lst, evq_ix, evq_blt, evq_isin, R.bind, R.take, R.toS, SR.seq, takeO, rdO, cellAt, content, truD, runF, outE, lift, dM, c1, gateM]
  | some t =>
    have c1 : cmpD .is_ (.int (t : Int)) .non = some false := rfl
    cases o with
    | none =>
      have c2 : cmpD .is_ .non .non = some true := rfl
      unfold semB b__law_gate
      simp [evSs, evS, evs, evr, truR, startE, cellsF, cellF, evq_c, evq_v, evq_bin, evq_cmp, evq_chn, evq_and_, evq_or_, evq_not_, evq_neg, evq_ite, evq_tup, evq_lst, evq_ix, evq_blt, evq_isin, R.bind, R.take, R.toS, SR.seq, takeO, rdO, cellAt, content, truD, runF, outE, lift, dM, dSl, c1, c2, gateM]
    | some ss =>
      have c2 : cmpD .is_ (.lst (dS ss)) .non = some false := rfl
      have e0 : b__law_gate = [.if_ (.or_ (.cmp .is_ (.v 2) (.c .non)) (.cmp .is_ (.v 0) (.c .non))) [.ret (.v 2)] [], .for_ (.tup [3, 4]) (.seq (.v 0)) bLG, .ret (.c .non)] := rfl
      have E : evi g__law_gate (.seq (.v 0)) (envG (.lst (dS ss)) n t none none none) = .ok (dS ss) (envG (.lst (dS ss)) n t none none none) := rfl
      have st : startE none 7 [D.lst (dS ss), .int n, .int t] = envG (.lst (dS ss)) n t none none none := rfl
      have T1 : evS g__law_gate (.if_ (.or_ (.cmp .is_ (.v 2) (.c .non)) (.cmp .is_ (.v 0) (.c .non))) [.ret (.v 2)] []) (envG (.lst (dS ss)) n t none none none) = .nx (envG (.lst (dS ss)) n t none none none) := by
        unfold envG
        generalize D.lst (dS ss) = S at *
        simp [evSs, evS, evs, evr, truR, startE, cellsF, cellF, evq_c, evq_v, evq_bin, evq_cmp, evq_chn, evq_and_, evq_or_, evq_not_, evq_neg, evq_ite, evq_tup, evq_lst, evq_ix, evq_blt, evq_isin, R.bind, R.take, R.toS, SR.seq, takeO, rdO, cellAt, content, truD, runF, outE, lift, c1, c2]
      rcases lg_loop (.lst (dS ss)) n t ss none none none (fun s hs => ho.2.1 s hs) rfl rfl rfl with ⟨y3, y4, y5, hg, hf⟩ | ⟨x, e, hg, hf⟩
      · have T2 : evS g__law_gate (.for_ (.tup [3, 4]) (.seq (.v 0)) bLG) (envG (.lst (dS ss)) n t none none none) = .nx (envG (.lst (dS ss)) n t y3 y4 y5) := by
          rw [evS, E]
          exact hf
        have eg : gateM (some ss) n (some t) = none := hg
        rw [eg]
        show semB g__law_gate 7 none b__law_gate [.lst (dS ss), .int n, .int t] = _
        unfold semB
        rw [e0, st, evSs, T1, seq_nx, evSs, T2, seq_nx]
        rfl
      · have T2 : evS g__law_gate (.for_ (.tup [3, 4]) (.seq (.v 0)) bLG) (envG (.lst (dS ss)) n t none none none) = .rt (.int (x : Int)) e := by
          rw [evS, E]
          exact hf
        have eg : gateM (some ss) n (some t) = some x := hg
        rw [eg]
        show semB g__law_gate 7 none b__law_gate [.lst (dS ss), .int n, .int t] = _
        unfold semB
        rw [e0, st, evSs, T1, seq_nx, evSs, T2]
        rfl
end Mp
set_option maxHeartbeats 4000000
namespace Mp
open PySem L2
variable [TabsW] [GdW]
theorem s_is_listedT (ds : List D) : f_is_listed.sem [.tup ds] = .ok (.bl true) [] := by rfl
theorem len_tup (ds : List D) : bltD .len [.tup ds] = some (.int ds.length) := rfl
theorem s_lengthsT (ns : List Nat) (hl : ns.length ≤ BIG) : f_need_lengths.sem [.tup (dNs ns), .int ns.length] = .ok .non [] := by
  have L : ev g_need_lengths (.lc (.name 2) (.seq (.v 0)) none (.call 1 [.v 2]) [2]) [some (.dat (.tup (dNs ns))), some (.dat (.int ns.length)), none] = .ok (.val (.lst (List.replicate ns.length (D.bl true)))) [some (.dat (.tup (dNs ns))), some (.dat (.int ns.length)), none] := by
    have := ev_lc_run (G := g_need_lengths) (i := 2) (it := .seq (.v 0)) (t := none) (e := .call 1 [.v 2]) (env := [some (.dat (.tup (dNs ns))), some (.dat (.int ns.length)), none]) (env0 := [some (.dat (.tup (dNs ns))), some (.dat (.int ns.length)), none]) (ds := dNs ns) (fun _ => true) (fun _ => .bl true) rfl (by simpa [dNs] using hl) rfl (by simp) (fun d hd => rfl) (fun d hd _ => by
      obtain ⟨m, _, rfl⟩ := List.mem_map.mp hd
      rw [cl_need_lengths_1]
      show R.take (runF _ (f_is_count.sem [.int m])) = _
      rw [s_count]
      rfl)
    rw [this]
    congr 3
    rw [List.map_const', List.filter_eq_self.mpr (fun _ _ => rfl)]
    simp [dNs]
  have hlen : (dNs ns).length = ns.length := by simp [dNs]
  have hd : cmpD .ne (.int (ns.length : Int)) (.int (ns.length : Int)) = some false := by simp [cmpD, dataD, eqD]
  show semB g_need_lengths 3 none b_need_lengths [.tup (dNs ns), .int ns.length] = _
  unfold semB b_need_lengths
  simp [evSs, evS, evs, evr, truR, startE, cellsF, cellF, evq_c, evq_v, evq_bin, evq_cmp, evq_chn, evq_and_, evq_or_, evq_not_, evq_neg, evq_ite, evq_tup, evq_lst, evq_ix, evq_blt, evq_isin, R.bind, R.take, R.toS, SR.seq, takeO, rdO, cellAt, content, truD, runF, outE, lift, cl_need_lengths_0, s_is_listedT, L, all_true, len_tup, hlen, hd]
theorem s_counter_rowT (as : List (Option Nat)) (ns : List Nat) (hn : ns.length = as.length) (o) (k : Nat) (h1 : 1 ≤ k) (h3 : k ≤ 3) (hl : as.length ≤ BIG) :
    f_counter_row.sem [.lst (as.map dM), .tup (dNs ns), .int k, dH o] = .ok (dR (counterM o k as ns)) [] := by
  have q1 := s_need_minutes (.str "arrivals") as hl
  have q2 := s_lengthsT ns (by omega)
  rw [hn] at q2
  have q3 := s_desks k h1 h3
  have q4 := s_need_hours o
  have hlen : (as.map dM).length = as.length := by simp
  obtain ⟨y5, y6, y7, y8, hf⟩ := counter_loop (.lst (as.map dM)) (.tup (dNs ns)) o k h1 h3 (as.zip ns) [] none none none none (by simp; omega) rfl rfl rfl rfl
  have e : evi g_counter_row (.zip (.v 0) (.v 1)) (envC (.lst (as.map dM)) (.tup (dNs ns)) (.int k) (dH o) [] none none none none) = .ok ((as.zip ns).map fun p => D.tup [dM p.1, .int p.2]) (envC (.lst (as.map dM)) (.tup (dNs ns)) (.int k) (dH o) [] none none none none) := by
    rw [← zip_rows]; rfl
  generalize (as.zip ns).map (fun p => D.tup [dM p.1, .int p.2]) = zs at e hf
  have hc : (as.zip ns).foldl (cstep o k) [] = counterM o k as ns := rfl
  rw [hc] at hf
  unfold envC at e hf
  rw [List.map_nil] at e hf
  show semB g_counter_row 11 none b_counter_row [.lst (as.map dM), .tup (dNs ns), .int k, dH o] = _
  have e0 : b_counter_row = [.expr (.call 0 [.c (.str "arrivals"), .v 0]), .expr (.call 1 [.v 1, .blt .len [.v 0]]), .expr (.call 2 [.v 2]), .expr (.call 3 [.v 3]), .new 4 (.lst []), .for_ (.tup [5, 6]) (.zip (.v 0) (.v 1)) bCR, .ret (.v 4)] := rfl
  unfold semB
  rw [e0]
  simp [evSs, evS, evs, evr, truR, startE, cellsF, cellF, evq_c, evq_v, evq_bin, evq_cmp, evq_chn, evq_and_, evq_or_, evq_not_, evq_neg, evq_ite, evq_tup, evq_lst, evq_ix, evq_blt, evq_isin, R.bind, R.take, R.toS, SR.seq, takeO, rdO, cellAt, content, truD, runF, outE, lift, cl_counter_row_0, cl_counter_row_1, cl_counter_row_2, cl_counter_row_3, q1, q2, q3, q4, len_lst, hlen, evL, freeB_eq, e, hf]
  rfl
theorem cut_drop {l : List D} (h : 1 ≤ l.length) : cutD l (some 1) none = l.drop 1 := by
  unfold cutD
  have e1 : HT.sIx l.length 0 (some (1 : Int)) = 1 := by
    have := HT.sIx_nat l.length 0 1
    have e : HT.sIx l.length 0 (some ((1 : Nat) : Int)) = min 1 l.length := this
    have e' : ((1 : Nat) : Int) = (1 : Int) := rfl
    rw [e'] at e
    rw [e]; omega
  have e2 : HT.sIx l.length l.length none = l.length := rfl
  rw [e1, e2, List.take_of_length_le (by rw [List.length_drop]; omega)]
def bLC : List ST := [.asg (.name 5) (.call 0 [.v 3, .v 8, .call 1 [.lst [.v 7, .v 5, .call 2 [.v 4]]]]), .asg (.name 9) (.call 3 [.v 5, .v 8]), .asg (.name 4) (.bin .add (.sl (.call 4 [.v 4]) (some (.c (.int 1))) none) (.lst [.v 9])), .expr (.app 6 (.tup [.v 5, .v 9]))]
section
variable (X Y K : D) (o : Option (List (Nat × Nat)))
def envK (free : List (Option Nat)) (b : Option Nat) (r : Row) (x7 x8 x9 : Option Cell) : Env := [some (.dat X), some (.dat Y), some (.dat K), some (.dat (dSl o)), some (.dat (.lst (free.map dM))), some (.dat (dM b)), some (.own (r.map dP)), x7, x8, x9]
theorem lc_turn (ho : GoodO o) (k : Nat) (hk : 1 ≤ k) (h3 : k ≤ 3) (free : List (Option Nat)) (r : Row) (hr : r.length < 100) (hd : Desk k free (r.map (·.2))) (a : Option Nat) (n B : Nat) (hB : 9999 ≤ B) (hB2 : B + n ≤ 99999999) (hf : Sm B free) (ha : ∀ x, a = some x → x ≤ B) (hb : ∀ x, aheadM r = some x → x ≤ B) (x9 : Option Cell) (h9 : frC x9 = true) :
    ∃ (free' : List (Option Nat)) (r' : Row) (y9 : Option Cell), cstep o k r (a, n) = r' ∧ Desk k free' (r'.map (·.2)) ∧ Sm (B + n) free' ∧ (∀ x, aheadM r' = some x → x ≤ B + n) ∧ r'.length = r.length + 1 ∧ frC y9 = true ∧
      evSs g__law_counter bLC (envK X Y K o free (aheadM r) r (some (.dat (dM a))) (some (.dat (.int n))) x9) = .nx (envK X Y K o free' (aheadM r') r' (some (.dat (dM a))) (some (.dat (.int n))) y9) := by
  have hBig : BIG = 100000 := rfl
  have hs9 : Sm 999999999 free := fun m hm x e => by have := hf m hm x e; omega
  have hmin := hd.min hk
  have q1 := q_lmin' free hs9 (by have := hd.len; omega)
  have bm : ∀ x, nthM free 1 = some x → x ≤ B := fun x z => hf _ (nth_mem z) x rfl
  have s3 : Sm B [a, aheadM r, nthM free 1] := fun m hm x e => by
    simp only [List.mem_cons, List.not_mem_nil, or_false] at hm
    rcases hm with rfl | rfl | rfl
    · exact ha x e
    · exact hb x e
    · exact bm x e
  have q2 : f__law_max.sem [.lst [dM a, dM (aheadM r), dM (nthM free 1)]] = .ok (dM (greM [a, aheadM r, nthM free 1])) [] := q_lmax [a, aheadM r, nthM free 1] (fun m hm x e => by have := s3 m hm x e; omega) (by show 4 ≤ BIG; decide)
  have bg : ∀ x, greM [a, aheadM r, nthM free 1] = some x → x ≤ B := fun x z => gre_le s3 z
  have q3 := s_lgate o ho n (greM [a, aheadM r, nthM free 1])
  have bb : ∀ x, gateM o n (greM [a, aheadM r, nthM free 1]) = some x → x ≤ B := fun x z => gate_le ho hB bg x z
  have at_ : ∀ y, atM (gateM o n (greM [a, aheadM r, nthM free 1])) y → atM (nthM free 1) y := fun y z => gre_three (gate_ge z)
  have ec : cstep o k r (a, n) = r ++ [(gateM o n (greM [a, aheadM r, nthM free 1]), (gateM o n (greM [a, aheadM r, nthM free 1])).map (· + n))] := by
    unfold cstep
    rw [hmin]
  generalize gateM o n (greM [a, aheadM r, nthM free 1]) = b' at q3 bb at_ ec
  generalize greM [a, aheadM r, nthM free 1] = g at q2 q3
  have q4 := s_lmore b' n
  have be : ∀ x, b'.map (· + n) = some x → x ≤ B + n := fun x z => add_le bb z
  have ate : ∀ y, atM (b'.map (· + n)) y → atM (nthM free 1) y := fun y z => at_ y (add_at z)
  generalize b'.map (· + n) = e at q4 be ate ec
  have q5 := s_sorted_ free (by have := hd.len; omega)
  have ls : (srtM free).length = free.length := by unfold srtM sortI; rw [List.length_map, List.length_mergeSort, List.length_map]
  have sl : slD (.lst ((srtM free).map dM)) (some 1) none = some (.lst (((srtM free).drop 1).map dM)) := by
    show some (D.lst (cutD _ _ _)) = _
    rw [cut_drop (by rw [List.length_map, ls, hd.len]; exact hk), List.map_drop]
  have ad : addD (.lst (((srtM free).drop 1).map dM)) (.lst [dM e]) = some (.lst ((((srtM free).drop 1) ++ [e]).map dM)) := by
    rw [List.map_append]
    exact if_pos (by rw [List.length_map, List.length_drop, ls, hd.len]; simp; omega)
  have hn := hd.next (e := e) hk hs9 ate
  refine ⟨(srtM free).drop 1 ++ [e], r ++ [(b', e)], some (.dat (dM e)), ec, ?_, fun m hm x ex => ?_, fun x ex => ?_, by simp, rfl, ?_⟩
  · rw [List.map_append]; exact hn
  · rcases List.mem_append.mp hm with hm | hm
    · have := srtM_sm hf (by omega) m (List.mem_of_mem_drop hm) x ex; omega
    · rw [List.mem_singleton.mp hm] at ex; exact be x ex
  · have e0 : aheadM (r ++ [(b', e)]) = b' := by unfold aheadM; rw [List.getLast?_concat]
    rw [e0] at ex
    have := bb x ex; omega
  · have e0 : aheadM (r ++ [(b', e)]) = b' := by unfold aheadM; rw [List.getLast?_concat]
    rw [e0]
    have hb3 : 3 ≤ BIG := by decide
    have hb2 : 2 ≤ BIG := by decide
    have hb1 : 1 ≤ BIG := by decide
    have hlt : r.length < BIG := by omega
    have er : (r ++ [(b', e)]).map dP = r.map dP ++ [.tup [dM b', dM e]] := by rw [List.map_append]; rfl
    have lr : (r.map dP).length < BIG := by rw [List.length_map]; exact hlt
    clear hd hn bm s3 bg bb at_ ate be ls hs9 hf ha hb hmin ec
    unfold envK
    rw [er]
    generalize aheadM r = ah at *
    generalize nthM free 1 = m at *
    generalize dSl o = S at *
    generalize ((srtM free).drop 1 ++ [e]).map dM = F2 at *
    generalize ((srtM free).drop 1).map dM = F1 at *
    generalize (srtM free).map dM = F0 at *
    generalize free.map dM = F at *
    generalize r.map dP = R1 at *
    have T1 : evS g__law_counter (.asg (.name 5) (.call 0 [.v 3, .v 8, .call 1 [.lst [.v 7, .v 5, .call 2 [.v 4]]]])) [some (.dat X), some (.dat Y), some (.dat K), some (.dat S), some (.dat (.lst F)), some (.dat (dM ah)), some (.own R1), some (.dat (dM a)), some (.dat (.int n)), x9] = .nx [some (.dat X), some (.dat Y), some (.dat K), some (.dat S), some (.dat (.lst F)), some (.dat (dM b')), some (.own R1), some (.dat (dM a)), some (.dat (.int n)), x9] := by
      simp [evSs, evS, evs, evr, truR, startE, cellsF, cellF, evq_c, evq_v, evq_bin, evq_cmp, evq_chn, evq_and_, evq_or_, evq_not_, evq_neg, evq_ite, evq_tup, evq_lst, evq_ix, evq_blt, evq_isin, R.bind, R.take, R.toS, SR.seq, takeO, rdO, cellAt, content, truD, runF, outE, lift, cl__law_counter_0, cl__law_counter_1, cl__law_counter_2, q1, q2, q3, bindT, freeB_eq, hb3]
    have T2 : evS g__law_counter (.asg (.name 9) (.call 3 [.v 5, .v 8])) [some (.dat X), some (.dat Y), some (.dat K), some (.dat S), some (.dat (.lst F)), some (.dat (dM b')), some (.own R1), some (.dat (dM a)), some (.dat (.int n)), x9] = .nx [some (.dat X), some (.dat Y), some (.dat K), some (.dat S), some (.dat (.lst F)), some (.dat (dM b')), some (.own R1), some (.dat (dM a)), some (.dat (.int n)), some (.dat (dM e))] := by
      simp [evSs, evS, evs, evr, truR, startE, cellsF, cellF, evq_c, evq_v, evq_bin, evq_cmp, evq_chn, evq_and_, evq_or_, evq_not_, evq_neg, evq_ite, evq_tup, evq_lst, evq_ix, evq_blt, evq_isin, R.bind, R.take, R.toS, SR.seq, takeO, rdO, cellAt, content, truD, runF, outE, lift, cl__law_counter_3, q4, bindT, freeB_eq, h9]
    have T3 : evS g__law_counter (.asg (.name 4) (.bin .add (.sl (.call 4 [.v 4]) (some (.c (.int 1))) none) (.lst [.v 9]))) [some (.dat X), some (.dat Y), some (.dat K), some (.dat S), some (.dat (.lst F)), some (.dat (dM b')), some (.own R1), some (.dat (dM a)), some (.dat (.int n)), some (.dat (dM e))] = .nx [some (.dat X), some (.dat Y), some (.dat K), some (.dat S), some (.dat (.lst F2)), some (.dat (dM b')), some (.own R1), some (.dat (dM a)), some (.dat (.int n)), some (.dat (dM e))] := by
      simp [evSs, evS, evs, evr, truR, startE, cellsF, cellF, evq_c, evq_v, evq_bin, evq_cmp, evq_chn, evq_and_, evq_or_, evq_not_, evq_neg, evq_ite, evq_tup, evq_lst, evq_ix, evq_blt, evq_isin, R.bind, R.take, R.toS, SR.seq, takeO, rdO, cellAt, content, truD, runF, outE, lift, cl__law_counter_4, q5, evq_sl, evo, R.rd, sl, ad, binD, bindT, freeB_eq, hb1]
    have T4 : evS g__law_counter (.expr (.app 6 (.tup [.v 5, .v 9]))) [some (.dat X), some (.dat Y), some (.dat K), some (.dat S), some (.dat (.lst F2)), some (.dat (dM b')), some (.own R1), some (.dat (dM a)), some (.dat (.int n)), some (.dat (dM e))] = .nx [some (.dat X), some (.dat Y), some (.dat K), some (.dat S), some (.dat (.lst F2)), some (.dat (dM b')), some (.own (R1 ++ [.tup [dM b', dM e]])), some (.dat (dM a)), some (.dat (.int n)), some (.dat (dM e))] := by
      simp [evSs, evS, evs, evr, truR, startE, cellsF, cellF, evq_c, evq_v, evq_bin, evq_cmp, evq_chn, evq_and_, evq_or_, evq_not_, evq_neg, evq_ite, evq_tup, evq_lst, evq_ix, evq_blt, evq_isin, R.bind, R.take, R.toS, SR.seq, takeO, rdO, cellAt, content, truD, runF, outE, lift, evq_app, ownB, lr, hb2]
    unfold bLC
    rw [evSs, T1, seq_nx, evSs, T2, seq_nx, evSs, T3, seq_nx, evSs, T4, seq_nx, evSs]
theorem lc_loop (ho : GoodO o) (k : Nat) (hk : 1 ≤ k) (h3 : k ≤ 3) : ∀ (xs : List (Option Nat × Nat)) (free : List (Option Nat)) (r : Row) (B : Nat) (x7 x8 x9 : Option Cell), r.length + xs.length ≤ 100 → Desk k free (r.map (·.2)) → 9999 ≤ B → B + 30 * xs.length ≤ 99999 → Sm B free → (∀ p, p ∈ xs → (∀ x, p.1 = some x → x ≤ 30) ∧ p.2 ≤ 30) → (∀ x, aheadM r = some x → x ≤ B) → frC x7 = true → frC x8 = true → frC x9 = true →
    ∃ e, forL (.tup [7, 8]) (fun e => evSs g__law_counter bLC e) (xs.map fun p => .tup [dM p.1, .int p.2]) (envK X Y K o free (aheadM r) r x7 x8 x9) = .nx e ∧ ∃ free' b' y7 y8 y9, e = envK X Y K o free' b' (xs.foldl (cstep o k) r) y7 y8 y9
  | [], free, r, B, x7, x8, x9, _, _, _, _, _, _, _, _, _, _ => ⟨_, rfl, free, aheadM r, x7, x8, x9, rfl⟩
  | (a, n) :: xs, free, r, B, x7, x8, x9, hl, hd, hB, hB2, hf, hp, hb, h7, h8, h9 => by
    obtain ⟨p1, p2⟩ := hp (a, n) List.mem_cons_self
    simp only [List.length_cons] at hl hB2
    have p2 : n ≤ 30 := p2
    obtain ⟨free', r', y9, g1, g2, g3, g4, g5, g6, ht⟩ := lc_turn X Y K o ho k hk h3 free r (by omega) hd a n B hB (by omega) hf (fun x z => by have := p1 x z; omega) hb x9 h9
    obtain ⟨e, he, hx⟩ := lc_loop ho k hk h3 xs free' r' (B + n) (some (.dat (dM a))) (some (.dat (.int n))) y9 (by omega) g2 (by omega) (by omega) g3 (fun p z => hp p (List.mem_cons_of_mem _ z)) g4 rfl rfl g6
    refine ⟨e, ?_, by rw [List.foldl_cons, g1]; exact hx⟩
    have hbd : bindT (.tup [7, 8]) (.tup [dM a, .int n]) (envK X Y K o free (aheadM r) r x7 x8 x9) = some (envK X Y K o free (aheadM r) r (some (.dat (dM a))) (some (.dat (.int n))) x9) := by
      unfold bindT envK
      simp [freeB_eq, h7, h8]
    rw [List.map_cons, forL, hbd]
    dsimp only
    rw [ht]
    exact he
end
theorem s_lcounter (as : List (Option Nat)) (ns : List Nat) (hn : ns.length = as.length) (hl : as.length ≤ 6) (hA : Sm 30 as) (hN : ∀ n, n ∈ ns → n ≤ 30) (o : Option (List (Nat × Nat))) (ho : GoodO o) (k : Nat) (hk : 1 ≤ k) (h3 : k ≤ 3) :
    f__law_counter.sem [.lst (as.map dM), .lst (dNs ns), .int k, dSl o] = .ok (dR (counterM o k as ns)) [] := by
  have hBig : BIG = 100000 := rfl
  have hlz : (as.zip ns).length ≤ 6 := by simp; omega
  obtain ⟨e, he, free', b', y7, y8, y9, rfl⟩ := lc_loop (.lst (as.map dM)) (.lst (dNs ns)) (.int k) o ho k hk h3 (as.zip ns) (List.replicate k (some 0)) [] 9999 none none none (by simp; omega) (Desk.start k) (Nat.le_refl _) (by omega) (fun m hm x ex => by rw [(List.mem_replicate.mp hm).2] at ex; cases ex; omega) (fun p hp => ⟨fun x z => hA p.1 (List.of_mem_zip hp).1 x z, hN p.2 (List.of_mem_zip hp).2⟩) (fun x z => by cases z; omega) rfl rfl rfl
  have E : evi g__law_counter (.zip (.v 0) (.v 1)) (envK (.lst (as.map dM)) (.lst (dNs ns)) (.int k) o (List.replicate k (some 0)) (some 0) [] none none none) = .ok ((as.zip ns).map fun p => D.tup [dM p.1, .int p.2]) (envK (.lst (as.map dM)) (.lst (dNs ns)) (.int k) o (List.replicate k (some 0)) (some 0) [] none none none) := by
    rw [← zip_rows]; rfl
  have ml : mulD (.lst [.int 0]) (.int (k : Int)) = some (.lst ((List.replicate k (some 0)).map dM)) := by
    have e1 : mulD (.lst [.int 0]) (.int (k : Int)) = if 0 ≤ (k : Int) ∧ (k : Int) ≤ 100 ∧ [D.int 0].length ≤ 100 then some (.lst (List.replicate (k : Int).toNat [D.int 0]).flatten) else none := rfl
    rw [e1, if_pos ⟨by omega, by omega, by decide⟩, Int.toNat_natCast, List.map_replicate]
    congr 2
    have : ∀ j : Nat, (List.replicate j [D.int 0]).flatten = List.replicate j (dM (some 0)) := by
      intro j
      induction j with
      | zero => rfl
      | succ j ih => rw [List.replicate_succ, List.flatten_cons, ih, List.replicate_succ]; rfl
    exact this k
  have hb1 : 1 ≤ BIG := by decide
  have hb0 : 0 ≤ BIG := by decide
  have T1 : evS g__law_counter (.parn3 4 (.bin .mul (.lst [.c (.int 0)]) (.v 2)) 5 (.c (.int 0)) 6 (.lst [])) [some (.dat (.lst (as.map dM))), some (.dat (.lst (dNs ns))), some (.dat (.int k)), some (.dat (dSl o)), none, none, none, none, none, none] = .nx (envK (.lst (as.map dM)) (.lst (dNs ns)) (.int k) o (List.replicate k (some 0)) (some 0) [] none none none) := by
    unfold envK
    generalize (List.replicate k (some 0)).map dM = F at *
    generalize dSl o = S at *
    generalize as.map dM = A at *
    simp [evSs, evS, evs, evr, truR, startE, cellsF, cellF, evq_c, evq_v, evq_bin, evq_cmp, evq_chn, evq_and_, evq_or_, evq_not_, evq_neg, evq_ite, evq_tup, evq_lst, evq_ix, evq_blt, evq_isin, R.bind, R.take, R.toS, SR.seq, takeO, rdO, cellAt, content, truD, runF, outE, lift, binD, ml, evL, freeB_eq, hb1, hb0, dM]
  have T2 : evS g__law_counter (.for_ (.tup [7, 8]) (.zip (.v 0) (.v 1)) bLC) (envK (.lst (as.map dM)) (.lst (dNs ns)) (.int k) o (List.replicate k (some 0)) (some 0) [] none none none) = .nx (envK (.lst (as.map dM)) (.lst (dNs ns)) (.int k) o free' b' (counterM o k as ns) y7 y8 y9) := by
    rw [evS, E]
    exact he
  have e0 : b__law_counter = [.parn3 4 (.bin .mul (.lst [.c (.int 0)]) (.v 2)) 5 (.c (.int 0)) 6 (.lst []), .for_ (.tup [7, 8]) (.zip (.v 0) (.v 1)) bLC, .ret (.v 6)] := rfl
  have st : startE none 10 [D.lst (as.map dM), .lst (dNs ns), .int k, dSl o] = [some (.dat (.lst (as.map dM))), some (.dat (.lst (dNs ns))), some (.dat (.int k)), some (.dat (dSl o)), none, none, none, none, none, none] := rfl
  show semB g__law_counter 10 none b__law_counter [.lst (as.map dM), .lst (dNs ns), .int k, dSl o] = _
  unfold semB
  rw [e0, st, evSs, T1, seq_nx, evSs, T2, seq_nx]
  rfl
end Mp
set_option maxHeartbeats 4000000
namespace Mp
open PySem L2
theorem counter_at (o : Option (List (Nat × Nat))) (k : Nat) (xs : List (Option Nat × Nat)) (p : Nat) (an : Option Nat × Nat) (h : xs[p]? = some an) :
    (xs.foldl (cstep o k) [])[p]? = some (gateM o an.2 (greM [an.1, aheadM ((xs.foldl (cstep o k) []).take p), deskM (((xs.foldl (cstep o k) []).take p).map (·.2)) k]), (gateM o an.2 (greM [an.1, aheadM ((xs.foldl (cstep o k) []).take p), deskM (((xs.foldl (cstep o k) []).take p).map (·.2)) k])).map (· + an.2)) := by
  have hp : p < xs.length := (List.getElem?_eq_some_iff.mp h).1
  have ex : xs = xs.take p ++ an :: xs.drop (p + 1) := by
    have e : xs.drop p = an :: xs.drop (p + 1) := by
      rw [List.drop_eq_getElem_cons hp]
      congr 1
      have := List.getElem?_eq_getElem hp
      rw [h] at this; exact (Option.some.inj this).symm
    rw [← e, List.take_append_drop]
  have hr : ((xs.take p).foldl (cstep o k) []).length = p := by rw [fold_len]; simp; omega
  obtain ⟨t, ht⟩ := fold_pre o k (xs.drop (p + 1)) (cstep o k ((xs.take p).foldl (cstep o k) []) an)
  have ef : xs.foldl (cstep o k) [] = cstep o k ((xs.take p).foldl (cstep o k) []) an ++ t := by
    conv => lhs; rw [ex]
    rw [List.foldl_append, List.foldl_cons, ht]
  obtain ⟨r, hR⟩ : ∃ r, (xs.take p).foldl (cstep o k) [] = r := ⟨_, rfl⟩
  rw [hR] at hr ht ef
  have ec : cstep o k r an = r ++ [(gateM o an.2 (greM [an.1, aheadM r, deskM (r.map (·.2)) k]), (gateM o an.2 (greM [an.1, aheadM r, deskM (r.map (·.2)) k])).map (· + an.2))] := rfl
  have et : (xs.foldl (cstep o k) []).take p = r := by
    rw [ef, ec, List.append_assoc, List.take_append_of_le_length (by omega), List.take_of_length_le (by omega)]
  rw [et, ef, ec, List.append_assoc, List.getElem?_append_right (by omega), hr, Nat.sub_self]
  rfl
theorem ahead_at (C : Row) (p : Nat) (hp : p + 1 ≤ C.length) (q : Option Nat × Option Nat) (h : C[p]? = some q) : aheadM (C.take (p + 1)) = q.1 := by
  have : (C.take (p + 1)).getLast? = C[p]? := by
    rw [List.getLast?_eq_getElem?, List.length_take, List.getElem?_take]
    have : min (p + 1) C.length - 1 = p := by omega
    rw [this, if_pos (by omega)]
  unfold aheadM
  rw [this, h]
theorem cut_take' {l : List D} {p : Nat} (h : p ≤ l.length) : cutD l none (some (p : Int)) = l.take p := by
  unfold cutD
  have : HT.sIx l.length l.length (some (p : Int)) = p := by rw [HT.sIx_nat]; omega
  rw [this]; rfl
variable [TabsW] [GdW]
def bCT : List ST := [.par [7, 8] [.ite (.cmp .gt (.v 6) (.c (.int 0))) (.ix (.ix (.v 5) (.bin .sub (.v 6) (.c (.int 1)))) (.c (.int 0))) (.c (.int 0)), .lc (.name 9) (.seq (.sl (.v 5) none (some (.v 6)))) none (.ix (.v 9) (.c (.int 1))) [9]], .if_ (.cmp .ne (.call 2 [.ix (.v 0) (.v 6), .v 7, .v 8, .v 2, .v 4, .ix (.v 1) (.v 6)]) (.ix (.ix (.v 5) (.v 6)) (.c (.int 0)))) [.ret (.c (.bl false))] []]
section
variable (as : List (Option Nat)) (ns : List Nat) (o : Option (List (Nat × Nat))) (k : Nat)
def envN (S : D) (C : Row) (x6 x7 x8 : Option Cell) : Env := [some (.dat (.lst (as.map dM))), some (.dat (.lst (dNs ns))), some (.dat (.int k)), some (.dat S), some (.dat (dH o)), some (.dat (dR C)), x6, x7, x8, none]
theorem ct_turn (S : D) (hn : ns.length = as.length) (hl : as.length ≤ 6) (hk : 1 ≤ k) (h3 : k ≤ 3) (p : Nat) (hp : p < as.length) (x7 x8 : Option Cell) (h7 : frC x7 = true) (h8 : frC x8 = true) :
    ∃ y7 y8, frC y7 = true ∧ frC y8 = true ∧ evSs g__law_row_right bCT (envN as ns o k S (counterM o k as ns) (some (.dat (.int p))) x7 x8) = .nx (envN as ns o k S (counterM o k as ns) (some (.dat (.int p))) y7 y8) := by
  have hBig : BIG = 100000 := rfl
  obtain ⟨a, ha⟩ : ∃ a, as[p]? = some a := ⟨_, List.getElem?_eq_getElem hp⟩
  obtain ⟨n, hn'⟩ : ∃ n, ns[p]? = some n := ⟨_, List.getElem?_eq_getElem (by omega)⟩
  have hz : (as.zip ns)[p]? = some (a, n) := by rw [List.getElem?_zip_eq_some]; exact ⟨ha, hn'⟩
  have hC := counter_at o k (as.zip ns) p (a, n) hz
  have hlen := counter_len o k as ns hn.symm
  have eC : (as.zip ns).foldl (cstep o k) [] = counterM o k as ns := rfl
  rw [eC] at hC
  generalize counterM o k as ns = C at hC hlen ⊢
  dsimp only at hC
  have a0 : ixD (.lst (as.map dM)) (.int (p : Int)) = some (dM a) := at_map _ as p a ha
  have a1 : ixD (.lst (dNs ns)) (.int (p : Int)) = some (.int n) := at_map _ ns p n hn'
  have a5 : ixD (dR C) (.int (p : Int)) = some (dP (gateM o n (greM [a, aheadM (C.take p), deskM ((C.take p).map (·.2)) k]), (gateM o n (greM [a, aheadM (C.take p), deskM ((C.take p).map (·.2)) k])).map (· + n))) := at_map _ C p _ hC
  have q2 := s_counter_begin a (aheadM (C.take p)) ((C.take p).map (·.2)) k o n hk h3 (by simp; omega)
  have V7 : ∀ x7 x8, ev g__law_row_right (.ite (.cmp .gt (.v 6) (.c (.int 0))) (.ix (.ix (.v 5) (.bin .sub (.v 6) (.c (.int 1)))) (.c (.int 0))) (.c (.int 0))) (envN as ns o k S C (some (.dat (.int p))) x7 x8) = .ok (.val (dM (aheadM (C.take p)))) (envN as ns o k S C (some (.dat (.int p))) x7 x8) := by
    intro x7 x8
    cases p with
    | zero =>
      have g0 : cmpD .gt (.int 0) (.int 0) = some false := rfl
      have e : aheadM (C.take 0) = some 0 := rfl
      rw [e]
      unfold envN
      generalize dR C = R1
      simp [evSs, evS, evs, evr, truR, startE, cellsF, cellF, evq_c, evq_v, evq_bin, evq_cmp, evq_chn, evq_and_, evq_or_, evq_not_, evq_neg, evq_ite, evq_tup, evq_lst, evq_ix, evq_blt, evq_isin, R.bind, R.take, R.toS, SR.seq, takeO, rdO, cellAt, content, truD, runF, outE, lift, g0, dM]
    | succ j =>
      have g0 : cmpD .gt (.int ((j + 1 : Nat) : Int)) (.int 0) = some true := by show some (decide _) = _; rw [decide_eq_true (by omega)]
      have hs : subD (.int ((j + 1 : Nat) : Int)) (.int 1) = some (.int (j : Int)) := by show some (D.int _) = _; congr 2; omega
      obtain ⟨q, hq⟩ : ∃ q, C[j]? = some q := ⟨_, List.getElem?_eq_getElem (by omega)⟩
      have e := ahead_at C j (by omega) q hq
      have i2 : ixD (dR C) (.int (j : Int)) = some (dP q) := at_map _ C j q hq
      have i1 : ixD (dP q) (.int 0) = some (dM q.1) := rfl
      rw [e]
      unfold envN
      clear hC a5 q2
      generalize dR C = R1 at *
      generalize dP q = Q at *
      generalize ((j + 1 : Nat) : Int) = jj at *
      simp [evSs, evS, evs, evr, truR, startE, cellsF, cellF, evq_c, evq_v, evq_bin, evq_cmp, evq_chn, evq_and_, evq_or_, evq_not_, evq_neg, evq_ite, evq_tup, evq_lst, evq_ix, evq_blt, evq_isin, R.bind, R.take, R.toS, SR.seq, takeO, rdO, cellAt, content, truD, runF, outE, lift, g0, binD, hs, i2, i1]
  have V8 : ∀ x7 x8, ev g__law_row_right (.lc (.name 9) (.seq (.sl (.v 5) none (some (.v 6)))) none (.ix (.v 9) (.c (.int 1))) [9]) (envN as ns o k S C (some (.dat (.int p))) x7 x8) = .ok (.val (.lst (((C.take p).map (·.2)).map dM))) (envN as ns o k S C (some (.dat (.int p))) x7 x8) := by
    intro x7 x8
    rw [List.map_map]
    have sl : slD (dR C) none (some (p : Int)) = some (.lst ((C.take p).map dP)) := by
      show some (D.lst (cutD _ _ _)) = _
      rw [cut_take' (by rw [List.length_map]; omega), ← List.map_take]
    have E : evi g__law_row_right (.seq (.sl (.v 5) none (some (.v 6)))) (envN as ns o k S C (some (.dat (.int p))) x7 x8) = .ok ((C.take p).map dP) (envN as ns o k S C (some (.dat (.int p))) x7 x8) := by
      have : ev g__law_row_right (.sl (.v 5) none (some (.v 6))) (envN as ns o k S C (some (.dat (.int p))) x7 x8) = .ok (.val (.lst ((C.take p).map dP))) (envN as ns o k S C (some (.dat (.int p))) x7 x8) := by
        unfold envN
        generalize (C.take p).map dP = L at *
        generalize dR C = R1 at *
        simp [evSs, evS, evs, evr, truR, startE, cellsF, cellF, evq_c, evq_v, evq_bin, evq_cmp, evq_chn, evq_and_, evq_or_, evq_not_, evq_neg, evq_ite, evq_tup, evq_lst, evq_ix, evq_blt, evq_isin, R.bind, R.take, R.toS, SR.seq, takeO, rdO, cellAt, content, truD, runF, outE, lift, evq_sl, evo, R.rd, sl]
      rw [evi, this]; rfl
    refine ev_lc_map (f := dP) (l := C.take p) E (by rw [List.length_take]; omega) rfl (by simp [envN]) fun q hq => ?_
    show (ev g__law_row_right (.ix (.v 9) (.c (.int 1))) [some (.dat (.lst (as.map dM))), some (.dat (.lst (dNs ns))), some (.dat (.int k)), some (.dat S), some (.dat (dH o)), some (.dat (dR C)), some (.dat (.int p)), x7, x8, some (.dat (dP q))]).take = .ok (dM q.2) [some (.dat (.lst (as.map dM))), some (.dat (.lst (dNs ns))), some (.dat (.int k)), some (.dat S), some (.dat (dH o)), some (.dat (dR C)), some (.dat (.int p)), x7, x8, some (.dat (dP q))]
    have i1 : ixD (dP q) (.int 1) = some (dM q.2) := rfl
    clear hC a5 q2 V7
    generalize dP q = Q at *
    generalize dR C = R1 at *
    generalize dH o = HH at *
    simp [evSs, evS, evs, evr, truR, startE, cellsF, cellF, evq_c, evq_v, evq_bin, evq_cmp, evq_chn, evq_and_, evq_or_, evq_not_, evq_neg, evq_ite, evq_tup, evq_lst, evq_ix, evq_blt, evq_isin, R.bind, R.take, R.toS, SR.seq, takeO, rdO, cellAt, content, truD, runF, outE, lift, i1]
  have V7 := V7 x7 x8
  have V8 := V8 x7 x8
  generalize gateM o n (greM [a, aheadM (C.take p), deskM ((C.take p).map (·.2)) k]) = b at a5 q2
  generalize b.map (· + n) = e at a5
  generalize aheadM (C.take p) = ah at *
  have i0 : ixD (dP (b, e)) (.int 0) = some (dM b) := rfl
  have cn : cmpD .ne (dM b) (dM b) = some false := cmp_nself (data_dM b)
  refine ⟨some (.dat (dM ah)), some (.dat (.lst (((C.take p).map (·.2)).map dM))), rfl, rfl, ?_⟩
  clear hC
  generalize ((C.take p).map (·.2)).map dM = EN at *
  have T1 : evS g__law_row_right (.par [7, 8] [.ite (.cmp .gt (.v 6) (.c (.int 0))) (.ix (.ix (.v 5) (.bin .sub (.v 6) (.c (.int 1)))) (.c (.int 0))) (.c (.int 0)), .lc (.name 9) (.seq (.sl (.v 5) none (some (.v 6)))) none (.ix (.v 9) (.c (.int 1))) [9]]) (envN as ns o k S C (some (.dat (.int p))) x7 x8) = .nx (envN as ns o k S C (some (.dat (.int p))) (some (.dat (dM ah))) (some (.dat (.lst EN)))) := by
    generalize IR.ite (.cmp .gt (.v 6) (.c (.int 0))) (.ix (.ix (.v 5) (.bin .sub (.v 6) (.c (.int 1)))) (.c (.int 0))) (.c (.int 0)) = I1 at *
    generalize IR.lc (.name 9) (.seq (.sl (.v 5) none (some (.v 6)))) none (.ix (.v 9) (.c (.int 1))) [9] = I2 at *
    unfold envN at V7 V8 ⊢
    generalize dR C = R1 at *
    generalize dH o = HH at *
    simp [evSs, evS, evs, evr, truR, startE, cellsF, cellF, evq_c, evq_v, evq_bin, evq_cmp, evq_chn, evq_and_, evq_or_, evq_not_, evq_neg, evq_ite, evq_tup, evq_lst, evq_ix, evq_blt, evq_isin, R.bind, R.take, R.toS, SR.seq, takeO, rdO, cellAt, content, truD, runF, outE, lift, V7, V8, bindT, freeB_eq, h7, h8]
  have T2 : evS g__law_row_right (.if_ (.cmp .ne (.call 2 [.ix (.v 0) (.v 6), .v 7, .v 8, .v 2, .v 4, .ix (.v 1) (.v 6)]) (.ix (.ix (.v 5) (.v 6)) (.c (.int 0)))) [.ret (.c (.bl false))] []) (envN as ns o k S C (some (.dat (.int p))) (some (.dat (dM ah))) (some (.dat (.lst EN)))) = .nx (envN as ns o k S C (some (.dat (.int p))) (some (.dat (dM ah))) (some (.dat (.lst EN)))) := by
    unfold envN
    generalize dP (b, e) = Q at *
    generalize dR C = R1 at *
    generalize dH o = HH at *
    generalize D.lst (as.map dM) = A at *
    generalize D.lst (dNs ns) = NN at *
    simp [evSs, evS, evs, evr, truR, startE, cellsF, cellF, evq_c, evq_v, evq_bin, evq_cmp, evq_chn, evq_and_, evq_or_, evq_not_, evq_neg, evq_ite, evq_tup, evq_lst, evq_ix, evq_blt, evq_isin, R.bind, R.take, R.toS, SR.seq, takeO, rdO, cellAt, content, truD, runF, outE, lift, cl__law_row_right_2, a0, a1, q2, a5, i0, cn]
  unfold bCT
  rw [evSs, T1, seq_nx, evSs, T2, seq_nx, evSs]
theorem ct_loop (S : D) (hn : ns.length = as.length) (hl : as.length ≤ 6) (hk : 1 ≤ k) (h3 : k ≤ 3) : ∀ (l : List Nat) (x6 x7 x8 : Option Cell), (∀ p, p ∈ l → p < as.length) → frC x6 = true → frC x7 = true → frC x8 = true →
    ∃ y6 y7 y8, forL (.name 6) (fun e => evSs g__law_row_right bCT e) (l.map fun k : Nat => D.int (k : Int)) (envN as ns o k S (counterM o k as ns) x6 x7 x8) = .nx (envN as ns o k S (counterM o k as ns) y6 y7 y8)
  | [], x6, x7, x8, _, _, _, _ => ⟨x6, x7, x8, rfl⟩
  | p :: l, x6, x7, x8, h, h6, h7, h8 => by
    obtain ⟨z7, z8, g7, g8, ht⟩ := ct_turn as ns o k S hn hl hk h3 p (h p List.mem_cons_self) x7 x8 h7 h8
    obtain ⟨y6, y7, y8, e⟩ := ct_loop S hn hl hk h3 l (some (.dat (.int p))) z7 z8 (fun j hj => h j (List.mem_cons_of_mem _ hj)) rfl g7 g8
    refine ⟨y6, y7, y8, ?_⟩
    have hb : bindT (.name 6) (.int p) (envN as ns o k S (counterM o k as ns) x6 x7 x8) = some (envN as ns o k S (counterM o k as ns) (some (.dat (.int p))) x7 x8) := by
      unfold bindT envN
      simp [freeB_eq, h6]
    rw [List.map_cons, forL, hb]
    dsimp only
    rw [ht]
    exact e
theorem s_row_right (hn : ns.length = as.length) (hl : as.length ≤ 6) (hA : Sm 30 as) (hN : ∀ n, n ∈ ns → n ≤ 30) (ho : GoodO o) (hk : 1 ≤ k) (h3 : k ≤ 3) :
    f__law_row_right.sem [.lst (as.map dM), .lst (dNs ns), .int k, dSl o] = .ok (.bl true) [] := by
  have hBig : BIG = 100000 := rfl
  have r1 := s_lcounter as ns hn hl hA hN o ho k hk h3
  have r2 := s_counter_rowT as ns hn o k hk h3 (by omega)
  have mk : ∀ env : Env, env[3]? = some (some (.dat (dSl o))) → ev g__law_row_right (.make 0 [.v 3]) env = .ok (.val (dH o)) env := by
    intro env he
    have hv : evs g__law_row_right [.v 3] env = .ok [dSl o] env := by
      have e3 : ev g__law_row_right (.v 3) env = .ok (.val (dSl o)) env := by
        rw [evq_v]
        unfold cellAt
        rw [he]; rfl
      rw [evs, e3]; rfl
    have hj : g__law_row_right.mks[0]? = some k_Hours := rfl
    have hnn : k_Hours.n = 1 := rfl
    rw [evq_make, hj]
    dsimp only
    rw [if_pos (show [IR.v 3].length = k_Hours.n from rfl), hv, R.bind_ok, k_good ho]
    rfl
  have hT : bltD .tuple [.lst (dNs ns)] = some (.tup (dNs ns)) := rfl
  have c1 := cmp_nself (data_dR (counterM o k as ns))
  have lenR : bltD .len [dR (counterM o k as ns)] = some (.int as.length) := by
    show some (D.int (((counterM o k as ns).map dP).length : Nat)) = _
    rw [List.length_map, counter_len o k as ns hn.symm]
  obtain ⟨y6, y7, y8, hf⟩ := ct_loop as ns o k (dSl o) hn hl hk h3 (List.range' 0 as.length) none none none (fun p hp => by have := List.mem_range'_1.mp hp; omega) rfl rfl rfl
  rw [← iota_map'] at hf
  have E : evi g__law_row_right (.rng1 (.blt .len [.v 5])) (envN as ns o k (dSl o) (counterM o k as ns) none none none) = .ok (iotaD 0 as.length) (envN as ns o k (dSl o) (counterM o k as ns) none none none) := by
    have g1 : -1000000 ≤ (as.length : Int) := by omega
    have g2 : (as.length : Int) ≤ 1000000 := by omega
    rw [evi]
    unfold envN
    generalize dR (counterM o k as ns) = R1 at *
    generalize dSl o = S at *
    generalize dH o = HH at *
    simp [evSs, evS, evs, evr, truR, startE, cellsF, cellF, evq_c, evq_v, evq_bin, evq_cmp, evq_chn, evq_and_, evq_or_, evq_not_, evq_neg, evq_ite, evq_tup, evq_lst, evq_ix, evq_blt, evq_isin, R.bind, R.take, R.toS, SR.seq, takeO, rdO, cellAt, content, truD, runF, outE, lift, lenR, R.rd, g1, g2]
  have e0 : b__law_row_right = [.asg (.name 4) (.make 0 [.v 3]), .asg (.name 5) (.call 0 [.v 0, .v 1, .v 2, .v 3]), .if_ (.cmp .ne (.call 1 [.v 0, .blt .tuple [.v 1], .v 2, .v 4]) (.v 5)) [.ret (.c (.bl false))] [], .for_ (.name 6) (.rng1 (.blt .len [.v 5])) bCT, .ret (.c (.bl true))] := rfl
  have mk0 := mk [some (.dat (.lst (as.map dM))), some (.dat (.lst (dNs ns))), some (.dat (.int k)), some (.dat (dSl o)), none, none, none, none, none, none] rfl
  clear mk
  show semB g__law_row_right 10 none b__law_row_right [.lst (as.map dM), .lst (dNs ns), .int k, dSl o] = _
  unfold semB
  rw [e0]
  generalize bCT = body at *
  generalize iotaD 0 as.length = io at *
  unfold envN at E hf
  generalize dR (counterM o k as ns) = R1 at *
  generalize dSl o = S at *
  generalize dH o = HH at *
  generalize D.lst (as.map dM) = A at *
  generalize D.tup (dNs ns) = NT at *
  generalize D.lst (dNs ns) = NN at *
  generalize IR.make 0 [.v 3] = MK at *
  simp [evSs, evS, evs, evr, truR, startE, cellsF, cellF, evq_c, evq_v, evq_bin, evq_cmp, evq_chn, evq_and_, evq_or_, evq_not_, evq_neg, evq_ite, evq_tup, evq_lst, evq_ix, evq_blt, evq_isin, R.bind, R.take, R.toS, SR.seq, takeO, rdO, cellAt, content, truD, runF, outE, lift, cl__law_row_right_0, cl__law_row_right_1, mk0, r1, r2, hT, c1, bindT, freeB_eq, E, hf]
end
end Mp
set_option maxHeartbeats 4000000
namespace Mp
open PySem L2
variable [TabsW] [GdW]
def oddL : D := .lst [.lst [.int (-1), .str "number"], .lst [.bl true, .str "number"], .lst [.str "0", .str "number"]]
theorem rf_1 {d : D} (ds : List D) (hd : d ∈ [D.int (-1), .bl true, .str "0"]) : ∀ i, i ∈ [2, 3, 4] → evS g__law_refuses (b__law_refuses.getD i .pass) [some (.io ds), some (.dat oddL), none, none, some (.dat d), some (.dat (.str "number"))] = .nx [some (.io ds), some (.dat oddL), none, none, some (.dat d), some (.dat (.str "number"))] := by
  intro i hi
  simp only [List.mem_cons, List.not_mem_nil, or_false] at hd hi
  rcases hd with rfl | rfl | rfl <;> rcases hi with rfl | rfl | rfl <;> kernel_rfl
theorem rf_2 {d e : D} (ds : List D) (hd : d ∈ [D.int (-1), .bl true, .str "0"]) (he : e ∈ [D.int 0, .int 4, .non, .bl true]) : ∀ i, i ∈ [6, 7, 8, 9] → evS g__law_refuses (b__law_refuses.getD i .pass) [some (.io ds), some (.dat oddL), some (.dat e), none, some (.dat d), some (.dat (.str "number"))] = .nx [some (.io ds), some (.dat oddL), some (.dat e), none, some (.dat d), some (.dat (.str "number"))] := by
  intro i hi
  simp only [List.mem_cons, List.not_mem_nil, or_false] at hd he hi
  rcases hd with rfl | rfl | rfl <;> rcases he with rfl | rfl | rfl | rfl <;> rcases hi with rfl | rfl | rfl | rfl <;> kernel_rfl
theorem rf_3 {d e f : D} (ds : List D) (hd : d ∈ [D.int (-1), .bl true, .str "0"]) (he : e ∈ [D.int 0, .int 4, .non, .bl true]) (hf : f ∈ [D.non, .lst [.int 1, .int 2], .lst [], .lst [d], .lst [.non]]) :
    evSs g__law_refuses (b__law_refuses.drop 11) [some (.io ds), some (.dat oddL), some (.dat e), some (.dat f), some (.dat d), some (.dat (.str "number"))] = .rt (.bl true) [some (.io ds), some (.dat oddL), some (.dat e), some (.dat f), some (.dat d), some (.dat (.str "number"))] := by
  simp only [List.mem_cons, List.not_mem_nil, or_false] at hd he hf
  rcases hf with rfl | rfl | rfl | rfl | rfl <;> rcases hd with rfl | rfl | rfl <;> rcases he with rfl | rfl | rfl | rfl <;> kernel_rfl
theorem s_refuses (a b : Int) : ∃ a' b', f__law_refuses.sem [.lst (src a b)] = .ok (.bl true) (src a' b') := by
  obtain ⟨v, a1, b1, hv, h1⟩ := s_one a b [.lst [.int (-1), .str "number"], .lst [.bl true, .str "number"], .lst [.str "0", .str "number"]] (by decide) (by decide)
  obtain ⟨d, hd, rfl⟩ : ∃ d, d ∈ [D.int (-1), .bl true, .str "0"] ∧ v = .lst [d, .str "number"] := by
    simp only [List.mem_cons, List.not_mem_nil, or_false] at hv
    rcases hv with rfl | rfl | rfl
    · exact ⟨_, by simp, rfl⟩
    · exact ⟨_, by simp, rfl⟩
    · exact ⟨_, by simp, rfl⟩
  obtain ⟨e, a2, b2, he, h2⟩ := s_one a1 b1 [.int 0, .int 4, .non, .bl true] (by decide) (by decide)
  obtain ⟨f, a3, b3, hf, h3⟩ := s_one a2 b2 [.non, .lst [.int 1, .int 2], .lst [], .lst [d], .lst [.non]] (by simp) (by simp)
  refine ⟨a3, b3, ?_⟩
  have J1 := rf_1 (src a1 b1) hd
  have J2 := rf_2 (src a2 b2) hd he
  have RE1 := rf_3 (src a3 b3) hd he hf
  clear hd he hf hv
  have st : startE (some 0) 6 [D.lst (src a b)] = [some (.io (src a b)), none, none, none, none, none] := rfl
  have C1 := io_call (G := g__law_refuses) (j := 0) (i := 0) (f := f__law_one) (es := [.v 1]) (env := [some (.io (src a b)), some (.dat oddL), none, none, none, none]) rfl rfl rfl rfl rfl rfl h1
  have C2 := io_call (G := g__law_refuses) (j := 0) (i := 0) (f := f__law_one) (es := [.lst [.c (.int 0), .c (.int 4), .c .non, .c (.bl true)]]) (env := [some (.io (src a1 b1)), some (.dat oddL), none, none, some (.dat d), some (.dat (.str "number"))]) rfl rfl rfl rfl rfl rfl h2
  have C3 := io_call (G := g__law_refuses) (j := 0) (i := 0) (f := f__law_one) (es := [.lst [.c .non, .lst [.c (.int 1), .c (.int 2)], .lst [], .lst [.v 4], .lst [.c .non]]]) (env := [some (.io (src a2 b2)), some (.dat oddL), some (.dat e), none, some (.dat d), some (.dat (.str "number"))]) rfl rfl rfl rfl rfl rfl h3
  have I2 := J1 2 (by simp)
  have I3 := J1 3 (by simp)
  have I4 := J1 4 (by simp)
  have I6 := J2 6 (by simp)
  have I7 := J2 7 (by simp)
  have I8 := J2 8 (by simp)
  have I9 := J2 9 (by simp)
  have e0 : b__law_refuses = ST.asg (.name 1) (.lst [.lst [.neg (.c (.int 1)), .c (.str "number")], .lst [.c (.bl true), .c (.str "number")], .lst [.c (.str "0"), .c (.str "number")]]) :: ST.asg (.tup [4, 5]) (.call 0 [.v 0, .v 1]) :: b__law_refuses.getD 2 .pass :: b__law_refuses.getD 3 .pass :: b__law_refuses.getD 4 .pass :: ST.asg (.name 2) (.call 0 [.v 0, .lst [.c (.int 0), .c (.int 4), .c .non, .c (.bl true)]]) :: b__law_refuses.getD 6 .pass :: b__law_refuses.getD 7 .pass :: b__law_refuses.getD 8 .pass :: b__law_refuses.getD 9 .pass :: ST.asg (.name 3) (.call 0 [.v 0, .lst [.c .non, .lst [.c (.int 1), .c (.int 2)], .lst [], .lst [.v 4], .lst [.c .non]]]) :: b__law_refuses.drop 11 := rfl
  generalize b__law_refuses.getD 2 .pass = i2 at I2 e0
  generalize b__law_refuses.getD 3 .pass = i3 at I3 e0
  generalize b__law_refuses.getD 4 .pass = i4 at I4 e0
  generalize b__law_refuses.getD 6 .pass = i6 at I6 e0
  generalize b__law_refuses.getD 7 .pass = i7 at I7 e0
  generalize b__law_refuses.getD 8 .pass = i8 at I8 e0
  generalize b__law_refuses.getD 9 .pass = i9 at I9 e0
  generalize b__law_refuses.drop 11 = rest at RE1 e0
  have T0 : ∀ s : List D, evS g__law_refuses (ST.asg (.name 1) (.lst [.lst [.neg (.c (.int 1)), .c (.str "number")], .lst [.c (.bl true), .c (.str "number")], .lst [.c (.str "0"), .c (.str "number")]])) [some (.io s), none, none, none, none, none] = .nx [some (.io s), some (.dat oddL), none, none, none, none] := by
    intro s
    kernel_rfl
  have T1 : evS g__law_refuses (ST.asg (.tup [4, 5]) (.call 0 [.v 0, .v 1])) [some (.io (src a b)), some (.dat oddL), none, none, none, none] = .nx [some (.io (src a1 b1)), some (.dat oddL), none, none, some (.dat d), some (.dat (.str "number"))] := by
    generalize src a b = s at C1 ⊢
    generalize src a1 b1 = s1 at C1 ⊢
    rw [evS, C1]
    rfl
  have T2 : evS g__law_refuses (ST.asg (.name 2) (.call 0 [.v 0, .lst [.c (.int 0), .c (.int 4), .c .non, .c (.bl true)]])) [some (.io (src a1 b1)), some (.dat oddL), none, none, some (.dat d), some (.dat (.str "number"))] = .nx [some (.io (src a2 b2)), some (.dat oddL), some (.dat e), none, some (.dat d), some (.dat (.str "number"))] := by
    generalize src a1 b1 = s at C2 ⊢
    generalize src a2 b2 = s1 at C2 ⊢
    rw [evS, C2]
    rfl
  have T3 : evS g__law_refuses (ST.asg (.name 3) (.call 0 [.v 0, .lst [.c .non, .lst [.c (.int 1), .c (.int 2)], .lst [], .lst [.v 4], .lst [.c .non]]])) [some (.io (src a2 b2)), some (.dat oddL), some (.dat e), none, some (.dat d), some (.dat (.str "number"))] = .nx [some (.io (src a3 b3)), some (.dat oddL), some (.dat e), some (.dat f), some (.dat d), some (.dat (.str "number"))] := by
    generalize src a2 b2 = s at C3 ⊢
    generalize src a3 b3 = s1 at C3 ⊢
    rw [evS, C3]
    rfl
  show semB g__law_refuses 6 (some 0) b__law_refuses [.lst (src a b)] = _
  unfold semB
  rw [e0, st, evSs, T0, seq_nx, evSs, T1, seq_nx, evSs, I2, seq_nx, evSs, I3, seq_nx, evSs, I4, seq_nx, evSs, T2, seq_nx, evSs, I6, seq_nx, evSs, I7, seq_nx, evSs, I8, seq_nx, evSs, I9, seq_nx, evSs, T3, seq_nx, RE1]
  rfl
end Mp
set_option maxHeartbeats 4000000
namespace Mp
open PySem L2
variable [TabsW] [GdW]
def envL (X : D) (x1 : Option Cell) (s : List D) (x3 x4 x5 : Option Cell) : Env := [some (.dat X), x1, some (.own s), x3, x4, x5, none, none]
def bArr : IR := .lc (.name 6) (.rng1 (.call 1 [.v 2, .c (.int 7)])) none (.call 2 [.v 2, .call 3 [.v 2, .lst [.c (.int 4), .c (.int 12)]]]) [6]
def bOr : IR := .lc (.name 7) (.seq (.v 3)) none (.or_ (.v 7) (.c (.int 0))) [7]
def bLen : IR := .lc (.name 7) (.seq (.v 3)) none (.call 3 [.v 2, .lst [.c (.int 0), .c (.int 1), .c (.int 2), .c (.int 5), .c (.int 9)]]) [7]
theorem arr_run (X : D) (x1 x3 x4 x5 : Option Cell) (a b : Int) : ∃ (as : List (Option Nat)) (a' b' : Int), as.length ≤ 6 ∧ Sm 30 as ∧ ev g_law bArr (envL X x1 (src a b) x3 x4 x5) = .ok (.val (.lst (as.map dM))) (envL X x1 (src a' b') x3 x4 x5) := by
  obtain ⟨m, a1, b1, hm, c1⟩ := s_take a b 7 (by decide) (by decide)
  have k1 := own_call (G := g_law) (j := 1) (i := 2) (f := f__law_take) (es := [.c (.int 7)]) (env := envL X x1 (src a b) x3 x4 x5) rfl rfl rfl rfl rfl rfl c1
  have E : evi g_law (.rng1 (.call 1 [.v 2, .c (.int 7)])) (envL X x1 (src a b) x3 x4 x5) = .ok (iotaD 0 m) (envL X x1 (src a1 b1) x3 x4 x5) := by
    rw [evi, k1]
    show (if -1000000 ≤ ((m : Nat) : Int) ∧ ((m : Nat) : Int) ≤ 1000000 then R.ok (iotaD 0 ((m : Nat) : Int).toNat) _ else .bad) = _
    rw [if_pos ⟨by omega, by omega⟩, Int.toNat_natCast]
    rfl
  rw [show iotaD 0 m = (List.range' 0 m).map fun k : Nat => D.int (k : Int) from iota_map' 0 m] at E
  obtain ⟨as, u, ⟨a', b', rfl⟩, hl, hs, h⟩ := ev_lc_draw (G := g_law) (i := 6) (s := 2) (e := .call 2 [.v 2, .call 3 [.v 2, .lst [.c (.int 4), .c (.int 12)]]]) (env := envL X x1 (src a b) x3 x4 x5) (env0 := envL X x1 [] x3 x4 x5) (l := List.range' 0 m) (f := fun k : Nat => D.int (k : Int)) (h := dM) (Q := fun m => ∀ x, m = some x → x ≤ 30) (S := SrcS) (c := Cell.own) (u0 := src a1 b1) E ⟨a1, b1, rfl⟩ (by have hB : BIG = 100000 := rfl; rw [List.length_range']; omega) (by decide) rfl (fun k hk u hu => by
      obtain ⟨a, b, rfl⟩ := hu
      obtain ⟨w, a2, b2, hw, c2⟩ := s_oneN a b [4, 12] (by decide) (by decide)
      have hw2 : 0 < w ∧ w ≤ 30 := by
        simp at hw
        rcases hw with rfl | rfl <;> decide
      obtain ⟨c, a3, b3, hc, c3⟩ := s_moment' a2 b2 w hw2.1 (by omega)
      have C2 := own_call (G := g_law) (j := 3) (i := 2) (f := f__law_one) (es := [.lst [.c (.int 4), .c (.int 12)]]) (env := [some (.dat X), x1, some (.own (src a b)), x3, x4, x5, some (.dat (.int k)), none]) rfl rfl rfl rfl rfl rfl c2
      have A2 : evs g_law [.call 3 [.v 2, .lst [.c (.int 4), .c (.int 12)]]] [some (.dat X), x1, some (.own (src a b)), x3, x4, x5, some (.dat (.int k)), none] = .ok [.int w] [some (.dat X), x1, some (.own (src a2 b2)), x3, x4, x5, some (.dat (.int k)), none] := by
        rw [evs, C2]; rfl
      have C3 := own_call (G := g_law) (j := 2) (i := 2) (f := f__law_moment) (es := [.call 3 [.v 2, .lst [.c (.int 4), .c (.int 12)]]]) (env := [some (.dat X), x1, some (.own (src a b)), x3, x4, x5, some (.dat (.int k)), none]) rfl rfl rfl rfl A2 rfl c3
      refine ⟨c, src a3 b3, ⟨a3, b3, rfl⟩, fun x z => by have := hc x z; omega, ?_⟩
      show (ev g_law (.call 2 [.v 2, .call 3 [.v 2, .lst [.c (.int 4), .c (.int 12)]]]) [some (.dat X), x1, some (.own (src a b)), x3, x4, x5, some (.dat (.int k)), none]).take = _
      rw [C3]; rfl)
  rw [List.length_range'] at hl
  exact ⟨as, a', b', by omega, hs, h⟩
/-- never becomes 0 -/
def orM : Option Nat → Option Nat
  | none => some 0
  | some n => some n
theorem or_run (X : D) (x1 x4 x5 : Option Cell) (s : List D) (as : List (Option Nat)) (h9 : as.length ≤ 6) : ev g_law bOr (envL X x1 s (some (.dat (.lst (as.map dM)))) x4 x5) = .ok (.val (.lst ((as.map orM).map dM))) (envL X x1 s (some (.dat (.lst (as.map dM)))) x4 x5) := by
  rw [List.map_map]
  refine ev_lc_map (f := dM) (l := as) rfl (by have hB : BIG = 100000 := rfl; omega) rfl (by simp [envL]) fun m hm => ?_
  show (ev g_law (.or_ (.v 7) (.c (.int 0))) [some (.dat X), x1, some (.own s), some (.dat (.lst (as.map dM))), x4, x5, none, some (.dat (dM m))]).take = .ok (dM (orM m)) [some (.dat X), x1, some (.own s), some (.dat (.lst (as.map dM))), x4, x5, none, some (.dat (dM m))]
  generalize as.map dM = A
  cases m with
  | none => simp [evSs, evS, evs, evr, truR, startE, cellsF, cellF, evq_c, evq_v, evq_bin, evq_cmp, evq_chn, evq_and_, evq_or_, evq_not_, evq_neg, evq_ite, evq_tup, evq_lst, evq_ix, evq_blt, evq_isin, R.bind, R.take, R.toS, SR.seq, takeO, rdO, cellAt, content, truD, runF, outE, lift, dM, orM]
  | some n =>
    have t : truD (.int (n : Int)) = some ((n : Int) != 0) := rfl
    by_cases hz : n = 0
    · subst hz
      have t : truD (.int 0) = some false := rfl
      simp [evSs, evS, evs, evr, truR, startE, cellsF, cellF, evq_c, evq_v, evq_bin, evq_cmp, evq_chn, evq_and_, evq_or_, evq_not_, evq_neg, evq_ite, evq_tup, evq_lst, evq_ix, evq_blt, evq_isin, R.bind, R.take, R.toS, SR.seq, takeO, rdO, cellAt, content, truD, runF, outE, lift, dM, orM, t]
    · have tt : ((n : Int) != 0) = true := by simp; omega
      rw [tt] at t
      simp [evq_or_, evq_v, cellAt, R.bind, rdO, dM, orM, hz, R.take, takeO, truD, tt]
theorem len_run (X : D) (x1 x4 x5 : Option Cell) (a b : Int) (as : List (Option Nat)) (h9 : as.length ≤ 6) : ∃ (ns : List Nat) (a' b' : Int), ns.length = as.length ∧ (∀ n, n ∈ ns → n ≤ 30) ∧ ev g_law bLen (envL X x1 (src a b) (some (.dat (.lst (as.map dM)))) x4 x5) = .ok (.val (.lst (dNs ns))) (envL X x1 (src a' b') (some (.dat (.lst (as.map dM)))) x4 x5) := by
  obtain ⟨ns, u, ⟨a', b', rfl⟩, hl, hs, h⟩ := ev_lc_draw (G := g_law) (i := 7) (s := 2) (it := .seq (.v 3)) (e := .call 3 [.v 2, .lst [.c (.int 0), .c (.int 1), .c (.int 2), .c (.int 5), .c (.int 9)]]) (env := envL X x1 (src a b) (some (.dat (.lst (as.map dM)))) x4 x5) (env0 := envL X x1 [] (some (.dat (.lst (as.map dM)))) x4 x5) (l := as) (f := dM) (h := fun n : Nat => D.int (n : Int)) (Q := fun n => n ≤ 30) (S := SrcS) (c := Cell.own) (u0 := src a b) rfl ⟨a, b, rfl⟩ (by have hB : BIG = 100000 := rfl; omega) (by decide) rfl (fun m hm u hu => by
      obtain ⟨a, b, rfl⟩ := hu
      obtain ⟨w, a2, b2, hw, c2⟩ := s_oneN a b [0, 1, 2, 5, 9] (by decide) (by decide)
      have hw2 : w ≤ 30 := by
        simp at hw
        rcases hw with rfl | rfl | rfl | rfl | rfl <;> decide
      have C2 := own_call (G := g_law) (j := 3) (i := 2) (f := f__law_one) (es := [.lst [.c (.int 0), .c (.int 1), .c (.int 2), .c (.int 5), .c (.int 9)]]) (env := [some (.dat X), x1, some (.own (src a b)), some (.dat (.lst (as.map dM))), x4, x5, none, some (.dat (dM m))]) rfl rfl rfl rfl rfl rfl c2
      refine ⟨w, src a2 b2, ⟨a2, b2, rfl⟩, hw2, ?_⟩
      show (ev g_law (.call 3 [.v 2, .lst [.c (.int 0), .c (.int 1), .c (.int 2), .c (.int 5), .c (.int 9)]]) [some (.dat X), x1, some (.own (src a b)), some (.dat (.lst (as.map dM))), x4, x5, none, some (.dat (dM m))]).take = _
      rw [C2]; rfl)
  exact ⟨ns, a', b', hl, hs, h⟩
def bLaw : List ST := [.new 2 (.call 0 [.v 0, .v 1]), .asg (.name 3) bArr, .if_ (.cmp .gt (.call 1 [.v 2, .c (.int 4)]) (.c (.int 0))) [.asg (.name 3) bOr] [], .asg (.name 4) bLen, .asg (.name 5) (.ite (.cmp .eq (.call 1 [.v 2, .c (.int 4)]) (.c (.int 0))) (.call 4 [.v 2]) (.c .non)), .if_ (.not_ (.call 5 [.v 3, .v 4, .bin .add (.c (.int 1)) (.call 1 [.v 2, .c (.int 3)]), .v 5])) [.ret (.c (.bl false))] [], .if_ (.not_ (.call 6 [.v 2])) [.ret (.c (.bl false))] []]
theorem law_turn (ns : List Int) (k : Nat) (hk : k < 100) (x2 x3 x4 x5 : Option Cell) (h2 : frC x2 = true) (h3 : frC x3 = true) (h4 : frC x4 = true) (h5 : frC x5 = true) : ∃ y2 y3 y4 y5, frC y2 = true ∧ frC y3 = true ∧ frC y4 = true ∧ frC y5 = true ∧
    evSs g_law bLaw [some (.dat (.lst (ns.map .int))), some (.dat (.int k)), x2, x3, x4, x5, none, none] = .nx [some (.dat (.lst (ns.map .int))), some (.dat (.int k)), y2, y3, y4, y5, none, none] := by
  obtain ⟨a, b, c0⟩ := s_pool ns k hk
  obtain ⟨X, hX⟩ : ∃ X, D.lst (ns.map D.int) = X := ⟨_, rfl⟩
  rw [hX] at c0 ⊢
  clear hX
  obtain ⟨K, hK⟩ : ∃ K, some (Cell.dat (.int (k : Int))) = K := ⟨_, rfl⟩
  have T1 : evS g_law (.new 2 (.call 0 [.v 0, .v 1])) [some (.dat X), some (.dat (.int k)), x2, x3, x4, x5, none, none] = .nx (envL X (some (.dat (.int k))) (src a b) x3 x4 x5) := by
    have hb : (src a b).length ≤ BIG := by show 2 ≤ BIG; decide
    have hf : g_law.frs[0]? = some f__law_pool := rfl
    have hn : f__law_pool.n = 2 := rfl
    unfold envL
    generalize src a b = s at *
    simp [evSs, evS, evs, evr, truR, startE, cellsF, cellF, evq_c, evq_v, evq_bin, evq_cmp, evq_chn, evq_and_, evq_or_, evq_not_, evq_neg, evq_ite, evq_tup, evq_lst, evq_ix, evq_blt, evq_isin, R.bind, R.take, R.toS, SR.seq, takeO, rdO, cellAt, content, truD, runF, outE, lift, evL, hf, hn, c0, hb, freeB_eq, h2]
  rw [hK] at T1 ⊢
  obtain ⟨as0, a1, b1, h9, hA, R1⟩ := arr_run X K x3 x4 x5 a b
  have T2 : evS g_law (.asg (.name 3) bArr) (envL X K (src a b) x3 x4 x5) = .nx (envL X K (src a1 b1) (some (.dat (.lst (as0.map dM)))) x4 x5) := by
    unfold envL at R1 ⊢
    generalize src a b = s at *
    generalize src a1 b1 = s1 at *
    generalize bArr = q at *
    simp [evSs, evS, evs, evr, truR, startE, cellsF, cellF, evq_c, evq_v, evq_bin, evq_cmp, evq_chn, evq_and_, evq_or_, evq_not_, evq_neg, evq_ite, evq_tup, evq_lst, evq_ix, evq_blt, evq_isin, R.bind, R.take, R.toS, SR.seq, takeO, rdO, cellAt, content, truD, runF, outE, lift, R1, bindT, freeB_eq, h3]
  obtain ⟨d, a2, b2, hd, c2⟩ := s_take a1 b1 4 (by decide) (by decide)
  have k2 := own_call (G := g_law) (j := 1) (i := 2) (f := f__law_take) (es := [.c (.int 4)]) (env := envL X K (src a1 b1) (some (.dat (.lst (as0.map dM)))) x4 x5) rfl rfl rfl rfl rfl rfl c2
  obtain ⟨as, hl, hAs, T3⟩ : ∃ as : List (Option Nat), as.length ≤ 6 ∧ Sm 30 as ∧ evS g_law (.if_ (.cmp .gt (.call 1 [.v 2, .c (.int 4)]) (.c (.int 0))) [.asg (.name 3) bOr] []) (envL X K (src a1 b1) (some (.dat (.lst (as0.map dM)))) x4 x5) = .nx (envL X K (src a2 b2) (some (.dat (.lst (as.map dM)))) x4 x5) := by
    by_cases hz : 0 < d
    · have g : cmpD .gt (.int (d : Int)) (.int 0) = some true := by show some (decide _) = _; rw [decide_eq_true (by omega)]
      have O := or_run X K x4 x5 (src a2 b2) as0 h9
      refine ⟨as0.map orM, by simpa using h9, fun m hm x e => ?_, ?_⟩
      · obtain ⟨m0, hm0, rfl⟩ := List.mem_map.mp hm
        cases m0 with
        | none => cases e; omega
        | some n => exact hA _ hm0 x e
      · unfold envL at k2 O ⊢
        generalize src a1 b1 = s1 at *
        generalize src a2 b2 = s2 at *
        generalize as0.map dM = A0 at *
        generalize (as0.map orM).map dM = A1 at *
        generalize bOr = q at *
        simp [evSs, evS, evs, evr, truR, startE, cellsF, cellF, evq_c, evq_v, evq_bin, evq_cmp, evq_chn, evq_and_, evq_or_, evq_not_, evq_neg, evq_ite, evq_tup, evq_lst, evq_ix, evq_blt, evq_isin, R.bind, R.take, R.toS, SR.seq, takeO, rdO, cellAt, content, truD, runF, outE, lift, k2, g, O, bindT, freeB_eq]
    · have g : cmpD .gt (.int (d : Int)) (.int 0) = some false := by show some (decide _) = _; rw [decide_eq_false (by omega)]
      refine ⟨as0, h9, hA, ?_⟩
      unfold envL at k2 ⊢
      generalize src a1 b1 = s1 at *
      generalize src a2 b2 = s2 at *
      generalize as0.map dM = A0 at *
      simp [evSs, evS, evs, evr, truR, startE, cellsF, cellF, evq_c, evq_v, evq_bin, evq_cmp, evq_chn, evq_and_, evq_or_, evq_not_, evq_neg, evq_ite, evq_tup, evq_lst, evq_ix, evq_blt, evq_isin, R.bind, R.take, R.toS, SR.seq, takeO, rdO, cellAt, content, truD, runF, outE, lift, k2, g]
  obtain ⟨ls, a3, b3, hls, hN, R4⟩ := len_run X K x4 x5 a2 b2 as hl
  have T4 : evS g_law (.asg (.name 4) bLen) (envL X K (src a2 b2) (some (.dat (.lst (as.map dM)))) x4 x5) = .nx (envL X K (src a3 b3) (some (.dat (.lst (as.map dM)))) (some (.dat (.lst (dNs ls)))) x5) := by
    unfold envL at R4 ⊢
    generalize src a2 b2 = s at *
    generalize src a3 b3 = s1 at *
    generalize bLen = q at *
    generalize as.map dM = AA at *
    simp [evSs, evS, evs, evr, truR, startE, cellsF, cellF, evq_c, evq_v, evq_bin, evq_cmp, evq_chn, evq_and_, evq_or_, evq_not_, evq_neg, evq_ite, evq_tup, evq_lst, evq_ix, evq_blt, evq_isin, R.bind, R.take, R.toS, SR.seq, takeO, rdO, cellAt, content, truD, runF, outE, lift, R4, bindT, freeB_eq, h4]
  obtain ⟨d5, a4, b4, hd5, c5⟩ := s_take a3 b3 4 (by decide) (by decide)
  have k5 := own_call (G := g_law) (j := 1) (i := 2) (f := f__law_take) (es := [.c (.int 4)]) (env := envL X K (src a3 b3) (some (.dat (.lst (as.map dM)))) (some (.dat (.lst (dNs ls)))) x5) rfl rfl rfl rfl rfl rfl c5
  obtain ⟨o, a5, b5, go, T5⟩ : ∃ (o : Option (List (Nat × Nat))) (a5 b5 : Int), GoodO o ∧ evS g_law (.asg (.name 5) (.ite (.cmp .eq (.call 1 [.v 2, .c (.int 4)]) (.c (.int 0))) (.call 4 [.v 2]) (.c .non))) (envL X K (src a3 b3) (some (.dat (.lst (as.map dM)))) (some (.dat (.lst (dNs ls)))) x5) = .nx (envL X K (src a5 b5) (some (.dat (.lst (as.map dM)))) (some (.dat (.lst (dNs ls)))) (some (.dat (dSl o)))) := by
    by_cases hz : d5 = 0
    · obtain ⟨o, a5, b5, go, c6⟩ := s_spans a4 b4
      have k6 := own_call (G := g_law) (j := 4) (i := 2) (f := f__law_spans) (es := []) (env := envL X K (src a4 b4) (some (.dat (.lst (as.map dM)))) (some (.dat (.lst (dNs ls)))) x5) rfl rfl rfl rfl rfl rfl c6
      have g : cmpD .eq (.int (d5 : Int)) (.int 0) = some true := by rw [hz]; exact cmp_self dataD_int
      refine ⟨o, a5, b5, go, ?_⟩
      unfold envL at k5 k6 ⊢
      generalize src a3 b3 = s1 at *
      generalize src a4 b4 = s2 at *
      generalize src a5 b5 = s3 at *
      generalize as.map dM = AA at *
      generalize dNs ls = NN at *
      generalize dSl o = S at *
      simp [evSs, evS, evs, evr, truR, startE, cellsF, cellF, evq_c, evq_v, evq_bin, evq_cmp, evq_chn, evq_and_, evq_or_, evq_not_, evq_neg, evq_ite, evq_tup, evq_lst, evq_ix, evq_blt, evq_isin, R.bind, R.take, R.toS, SR.seq, takeO, rdO, cellAt, content, truD, runF, outE, lift, k5, k6, g, bindT, freeB_eq, h5]
    · have g : cmpD .eq (.int (d5 : Int)) (.int 0) = some false := cmp_int_ne (by omega)
      refine ⟨none, a4, b4, trivial, ?_⟩
      unfold envL at k5 ⊢
      generalize src a3 b3 = s1 at *
      generalize src a4 b4 = s2 at *
      generalize as.map dM = AA at *
      generalize dNs ls = NN at *
      simp [evSs, evS, evs, evr, truR, startE, cellsF, cellF, evq_c, evq_v, evq_bin, evq_cmp, evq_chn, evq_and_, evq_or_, evq_not_, evq_neg, evq_ite, evq_tup, evq_lst, evq_ix, evq_blt, evq_isin, R.bind, R.take, R.toS, SR.seq, takeO, rdO, cellAt, content, truD, runF, outE, lift, k5, g, bindT, freeB_eq, h5, dSl]
  obtain ⟨q, a6, b6, hq, c6⟩ := s_take a5 b5 3 (by decide) (by decide)
  have k6 := own_call (G := g_law) (j := 1) (i := 2) (f := f__law_take) (es := [.c (.int 3)]) (env := envL X K (src a5 b5) (some (.dat (.lst (as.map dM)))) (some (.dat (.lst (dNs ls)))) (some (.dat (dSl o)))) rfl rfl rfl rfl rfl rfl c6
  have m6 := s_row_right as ls o (1 + q) hls hl hAs hN go (by omega) (by omega)
  have ad : addD (.int 1) (.int (q : Int)) = some (.int ((1 + q : Nat) : Int)) := by show some (D.int _) = _; congr 2
  have T6 : evS g_law (.if_ (.not_ (.call 5 [.v 3, .v 4, .bin .add (.c (.int 1)) (.call 1 [.v 2, .c (.int 3)]), .v 5])) [.ret (.c (.bl false))] []) (envL X K (src a5 b5) (some (.dat (.lst (as.map dM)))) (some (.dat (.lst (dNs ls)))) (some (.dat (dSl o)))) = .nx (envL X K (src a6 b6) (some (.dat (.lst (as.map dM)))) (some (.dat (.lst (dNs ls)))) (some (.dat (dSl o)))) := by
    unfold envL at k6 ⊢
    generalize src a5 b5 = s3 at *
    generalize src a6 b6 = s4 at *
    generalize as.map dM = AA at *
    generalize dNs ls = NN at *
    generalize dSl o = S at *
    generalize ((1 + q : Nat) : Int) = z at *
    simp [evSs, evS, evs, evr, truR, startE, cellsF, cellF, evq_c, evq_v, evq_bin, evq_cmp, evq_chn, evq_and_, evq_or_, evq_not_, evq_neg, evq_ite, evq_tup, evq_lst, evq_ix, evq_blt, evq_isin, R.bind, R.take, R.toS, SR.seq, takeO, rdO, cellAt, content, truD, runF, outE, lift, cl_law_5, k6, binD, ad, m6]
  obtain ⟨a7, b7, c7⟩ := s_refuses a6 b6
  have k7 := own_call (G := g_law) (j := 6) (i := 2) (f := f__law_refuses) (es := []) (env := envL X K (src a6 b6) (some (.dat (.lst (as.map dM)))) (some (.dat (.lst (dNs ls)))) (some (.dat (dSl o)))) rfl rfl rfl rfl rfl rfl c7
  have T7 : evS g_law (.if_ (.not_ (.call 6 [.v 2])) [.ret (.c (.bl false))] []) (envL X K (src a6 b6) (some (.dat (.lst (as.map dM)))) (some (.dat (.lst (dNs ls)))) (some (.dat (dSl o)))) = .nx (envL X K (src a7 b7) (some (.dat (.lst (as.map dM)))) (some (.dat (.lst (dNs ls)))) (some (.dat (dSl o)))) := by
    unfold envL at k7 ⊢
    generalize src a6 b6 = s3 at *
    generalize src a7 b7 = s4 at *
    generalize as.map dM = AA at *
    generalize dNs ls = NN at *
    generalize dSl o = S at *
    simp [evSs, evS, evs, evr, truR, startE, cellsF, cellF, evq_c, evq_v, evq_bin, evq_cmp, evq_chn, evq_and_, evq_or_, evq_not_, evq_neg, evq_ite, evq_tup, evq_lst, evq_ix, evq_blt, evq_isin, R.bind, R.take, R.toS, SR.seq, takeO, rdO, cellAt, content, truD, runF, outE, lift, k7]
  refine ⟨some (.own (src a7 b7)), some (.dat (.lst (as.map dM))), some (.dat (.lst (dNs ls))), some (.dat (dSl o)), rfl, rfl, rfl, rfl, ?_⟩
  unfold bLaw
  rw [evSs, T1, seq_nx, evSs, T2, seq_nx, evSs, T3, seq_nx, evSs, T4, seq_nx, evSs, T5, seq_nx, evSs, T6, seq_nx, evSs, T7, seq_nx, evSs]
  rfl
theorem law_loop (ns : List Int) : ∀ (ks : List Nat) (x1 x2 x3 x4 x5 : Option Cell), (∀ k, k ∈ ks → k < 100) → frC x1 = true → frC x2 = true → frC x3 = true → frC x4 = true → frC x5 = true →
    ∃ y1 y2 y3 y4 y5, forL (.name 1) (fun e => evSs g_law bLaw e) (ks.map fun k : Nat => D.int (k : Int)) [some (.dat (.lst (ns.map .int))), x1, x2, x3, x4, x5, none, none] = .nx [some (.dat (.lst (ns.map .int))), y1, y2, y3, y4, y5, none, none]
  | [], x1, x2, x3, x4, x5, _, _, _, _, _, _ => ⟨x1, x2, x3, x4, x5, rfl⟩
  | k :: ks, x1, x2, x3, x4, x5, h, h1, h2, h3, h4, h5 => by
    obtain ⟨z2, z3, z4, z5, g2, g3, g4, g5, ht⟩ := law_turn ns k (h k List.mem_cons_self) x2 x3 x4 x5 h2 h3 h4 h5
    obtain ⟨y1, y2, y3, y4, y5, e⟩ := law_loop ns ks (some (.dat (.int k))) z2 z3 z4 z5 (fun j hj => h j (List.mem_cons_of_mem _ hj)) rfl g2 g3 g4 g5
    refine ⟨y1, y2, y3, y4, y5, ?_⟩
    have hb : bindT (.name 1) (.int k) [some (.dat (.lst (ns.map .int))), x1, x2, x3, x4, x5, none, none] = some [some (.dat (.lst (ns.map .int))), some (.dat (.int k)), x2, x3, x4, x5, none, none] := by
      unfold bindT
      simp [freeB_eq, h1]
    rw [List.map_cons, forL, hb]
    dsimp only
    rw [ht]
    exact e
theorem ex_row13 : counterM none 1 [some 5, some 3] [10, 4] = [(some 5, some 15), (some 15, some 19)] := by
  have g3 : ∀ a b c : Nat, greM [some a, some b, some c] = some (max a (max b c)) := fun a b c => by
    refine eq_at fun y => ?_
    unfold greM
    rw [if_neg (by simp), nth_at _ _ _ (by simp), cnt_cons, cnt_cons, cnt_cons]
    have e : cnt [] y = 0 := rfl
    have ha : ∀ a : Nat, atM (some a) y ↔ a ≤ y := fun a => ⟨fun ⟨c, e, k⟩ => by cases e; exact k, fun k => ⟨a, rfl, k⟩⟩
    rw [e, ha (max a (max b c))]
    by_cases h1 : a ≤ y <;> by_cases h2 : b ≤ y <;> by_cases h3 : c ≤ y <;> simp [ha, h1, h2, h3] <;> omega
  have d1 : deskM [some 15] 1 = some 15 := by
    refine eq_at fun y => ?_
    unfold deskM
    rw [if_neg (by simp), nth_at _ _ _ (by simp), cnt_cons]
    have e : cnt [] y = 0 := rfl
    rw [e]
    by_cases h : atM (some 15) y <;> simp [h]
  simp [counterM, cstep, aheadM, gateM, g3, d1, show deskM [] 1 = some 0 from rfl]
theorem math (ns : List Int) (hl : ns.length ≤ 63) : ∃ out, semB g_law 8 none b_law [.lst (ns.map .int)] = .ok (.bl true) out := by
  refine ⟨[], ?_⟩
  have q := s_rounds (ns.map .int)
  obtain ⟨m, hm⟩ : ∃ m, max 1 (min (ns.map D.int).length 4) = m := ⟨_, rfl⟩
  have hm4 : m ≤ 4 := by omega
  rw [hm] at q
  have io : iotaD 0 m = (List.range' 0 m).map fun k : Nat => D.int (k : Int) := iota_map' 0 m
  obtain ⟨y1, y2, y3, y4, y5, hf⟩ := law_loop ns (List.range' 0 m) none none none none none (fun k hk => by have := List.mem_range'_1.mp hk; omega) rfl rfl rfl rfl rfl
  rw [← io] at hf
  have e0 : b_law = [.for_ (.name 1) (.seq (.call 0 [.v 0])) bLaw, .ret (.and_ (.cmp .eq (.call 7 [.lst [], .lst [], .c (.int 1), .make 0 []]) (.lst [])) (.cmp .eq (.call 7 [.lst [.c (.int 5), .c (.int 3)], .lst [.c (.int 10), .c (.int 4)], .c (.int 1), .make 0 []]) (.lst [.tup [.c (.int 5), .c (.int 15)], .tup [.c (.int 15), .c (.int 19)]])))] := rfl
  have E : evi g_law (.seq (.call 0 [.v 0])) [some (.dat (.lst (ns.map .int))), none, none, none, none, none, none, none] = .ok (iotaD 0 m) [some (.dat (.lst (ns.map .int))), none, none, none, none, none, none, none] := by
    rw [evi, cl_law_0]
    show (R.take (runF _ (f__law_rounds.sem [.lst (ns.map .int)]))).bind _ = _
    rw [q]
    rfl
  have T1 : evS g_law (.for_ (.name 1) (.seq (.call 0 [.v 0])) bLaw) [some (.dat (.lst (ns.map .int))), none, none, none, none, none, none, none] = .nx [some (.dat (.lst (ns.map .int))), y1, y2, y3, y4, y5, none, none] := by
    rw [evS, E]
    exact hf
  have T2 : ∀ env : Env, evS g_law (.ret (.and_ (.cmp .eq (.call 7 [.lst [], .lst [], .c (.int 1), .make 0 []]) (.lst [])) (.cmp .eq (.call 7 [.lst [.c (.int 5), .c (.int 3)], .lst [.c (.int 10), .c (.int 4)], .c (.int 1), .make 0 []]) (.lst [.tup [.c (.int 5), .c (.int 15)], .tup [.c (.int 15), .c (.int 19)]])))) env = .rt (.bl true) env := by
    intro env
    have mk : ev g_law (.make 0 []) env = .ok (.val (dH none)) env := by kernel_rfl
    have r1 : f_counter_row.sem [.lst [], .lst [], .int 1, dH none] = .ok (.lst []) [] := s_counter_row [] [] rfl none 1 (by decide) (by decide) (by decide)
    have r2 : f_counter_row.sem [.lst [.int 5, .int 3], .lst [.int 10, .int 4], .int 1, dH none] = .ok (.lst [.tup [.int 5, .int 15], .tup [.int 15, .int 19]]) [] := by
      have := s_counter_row [some 5, some 3] [10, 4] rfl none 1 (by decide) (by decide) (by decide)
      rw [ex_row13] at this
      exact this
    have c1 : cmpD .eq (.lst []) (.lst []) = some true := by kernel_rfl
    have c2 : cmpD .eq (.lst [.tup [.int 5, .int 15], .tup [.int 15, .int 19]]) (.lst [.tup [.int 5, .int 15], .tup [.int 15, .int 19]]) = some true := by kernel_rfl
    have hb : 2 ≤ BIG := by decide
    generalize dH none = HH at *
    generalize IR.make 0 [] = MK at *
    simp [evSs, evS, evs, evr, truR, startE, cellsF, cellF, evq_c, evq_v, evq_bin, evq_cmp, evq_chn, evq_and_, evq_or_, evq_not_, evq_neg, evq_ite, evq_tup, evq_lst, evq_ix, evq_blt, evq_isin, R.bind, R.take, R.toS, SR.seq, takeO, rdO, cellAt, content, truD, runF, outE, lift, cl_law_7, mk, r1, r2, c1, c2, hb]
  have st : startE none 8 [D.lst (ns.map .int)] = [some (.dat (.lst (ns.map .int))), none, none, none, none, none, none, none] := rfl
  have T0 : evSs g_law b_law (startE none 8 [D.lst (ns.map .int)]) = .rt (.bl true) [some (.dat (.lst (ns.map .int))), y1, y2, y3, y4, y5, none, none] := by
    rw [e0, st, evSs, T1, seq_nx, evSs, T2]
    rfl
  rw [semB, T0]
  rfl
end Mp
set_option maxHeartbeats 4000000
namespace Mp
open PySem L2 PyProof.Rows
theorem tabS_empty {H : Hp} {P : Addr} {q : Str} (h : H P = some (.tbl #[])) : LamX.TabS H P q := ⟨#[], h, trivial, fun pos cv hc => by cases hc⟩
theorem tabIn_of {K : PySem.W.Frag} {x : Str} {f c P : Addr} {oc xo : Value} {od xd : Option Addr} {fd : FuncData} {sl xs : Array (Option Value)} {vs : Array Value} (ha : PySem.W.nsIn K mainGlobals x = some (some (.ref f))) (hl : K.lookup f = some ⟨oc, od, .func fd, sl⟩) (hc : fd.code = .ref c) (hx : K.lookup c = some ⟨xo, xd, .fields vs, xs⟩) (hp : (vs[11]? : Option Value) = some (.ref P)) : PySem.W.tabIn K x = some (c, P) := by
  unfold PySem.W.tabIn
  rw [ha]
  dsimp only
  rw [hl]
  dsimp only
  rw [hc]
  dsimp only
  rw [hx]
  dsimp only
  rw [hp]
theorem FnOk.imp [GdW] {P : Program} {w : World} {K : PySem.W.Frag} {mg : Str → Option Value} {base : Heap} {CX : CXT} {k : Nat} {f : Addr} {fd : FuncData} {ps : List Str} {sp sp2 : Sp} (F : FnOk P w K mg base CX k f fd ps sp) (h : ∀ vs H Q E, sp2 vs H Q E → sp vs H Q E) : FnOk P w K mg base CX k f fd ps sp2 := ⟨fun vs H Q E z => F.len vs H Q E (h _ _ _ _ z), fun A out s H args us vs Q E hr e0 b r z => F.go A out s H args us vs Q E hr e0 b r (h _ _ _ _ z)⟩
theorem exm_cc {K : PySem.W.Frag} {S S' : Addr} {r : Bool} (h1 : PySem.W.subIn K (.ref S') (.type "BaseException") = some true) (h2 : PySem.W.isClsIn K S' = true) (h3 : PySem.W.typeIn K (.ref S') = some (.type "type")) (h4 : PySem.W.subIn K (.ref S) (.ref S') = some r) : PySem.W.exmOne K (.ref S) (.ref S') = some r := by
  have e1 : (PySem.W.subIn K (.ref S') (.type "BaseException") == some true) = true := by rw [h1] <;> rfl
  have e2 : ((PySem.W.clsIn K S').isSome && PySem.W.typeIn K (.ref S') == some (.type "type")) = true := by
    have h2' : (PySem.W.clsIn K S').isSome = true := h2
    rw [h2', h3] <;> rfl
  show (if (PySem.W.subIn K (.ref S') (.type "BaseException") == some true) = true then (if ((PySem.W.clsIn K S').isSome && PySem.W.typeIn K (.ref S') == some (.type "type")) = true then PySem.W.subIn K (.ref S) (.ref S') else none) else none) = some r
  rw [if_pos e1, if_pos e2]
  exact h4
theorem all_mk {l : PySem.W.OpenLaw} {w : World} {K : PySem.W.Frag} {h : Heap} {mg : Str → Option Value} {fa C_Hours C_BadPart I_BadPart N_BadPart C_DayError C_BadNumber I_BadNumber N_BadNumber C_BadIndex I_BadIndex N_BadIndex f0 f1 f2 f3 f4 f5 f6 f7 f8 f9 f10 f11 f12 f13 f14 f15 f16 t16 f17 f18 f19 f20 f21 f22 f23 f24 f25 f26 f27 f28 f29 f30 f31 f32 f33 f34 f35 f36 f37 f38 f39 f40 f41 f42 cc42 P42 f43 fH0 : Addr} (X : K.In h) (G : h.Ns mainGlobals mg) (hfa : mg "law" = some (.ref fa))
    {nm_BadPart q_BadPart : Str} {bs_BadPart sub_BadPart : List Value} {sn_BadPart : List Str} {ab_BadPart : Bool} {col_BadPart : Option Bool} {dd_BadPart : Option Addr} {m0_BadPart m1_BadPart m2_BadPart m3_BadPart m5_BadPart : Option Value}
    {od_BadPart an_BadPart : Option Addr} {sl_BadPart : Array (Option Value)} {oc_BadPart dc_BadPart pm_BadPart cd_BadPart ct_BadPart : Value}
    {nm_BadNumber q_BadNumber : Str} {bs_BadNumber sub_BadNumber : List Value} {sn_BadNumber : List Str} {ab_BadNumber : Bool} {col_BadNumber : Option Bool} {dd_BadNumber : Option Addr} {m0_BadNumber m1_BadNumber m2_BadNumber m3_BadNumber m5_BadNumber : Option Value}
    {od_BadNumber an_BadNumber : Option Addr} {sl_BadNumber : Array (Option Value)} {oc_BadNumber dc_BadNumber pm_BadNumber cd_BadNumber ct_BadNumber : Value}
    {nm_BadIndex q_BadIndex : Str} {bs_BadIndex sub_BadIndex : List Value} {sn_BadIndex : List Str} {ab_BadIndex : Bool} {col_BadIndex : Option Bool} {dd_BadIndex : Option Addr} {m0_BadIndex m1_BadIndex m2_BadIndex m3_BadIndex m5_BadIndex : Option Value}
    {od_BadIndex an_BadIndex : Option Addr} {sl_BadIndex : Array (Option Value)} {oc_BadIndex dc_BadIndex pm_BadIndex cd_BadIndex ct_BadIndex : Value}
    {od0 an0 od1 an1 od2 an2 od3 an3 od4 an4 od5 an5 od6 an6 od7 an7 od8 an8 od9 an9 od10 an10 od11 an11 od12 an12 od13 an13 od14 an14 od15 an15 od16 an16 od17 an17 od18 an18 od19 an19 od20 an20 od21 an21 od22 an22 od23 an23 od24 an24 od25 an25 od26 an26 od27 an27 od28 an28 od29 an29 od30 an30 od31 an31 od32 an32 od33 an33 od34 an34 od35 an35 od36 an36 od37 an37 od38 an38 od39 an39 od40 an40 od41 an41 od42 an42 od43 an43 odH0 anH0 : Option Addr} {sl0 sl1 sl2 sl3 sl4 sl5 sl6 sl7 sl8 sl9 sl10 sl11 sl12 sl13 sl14 sl15 sl16 sl17 sl18 sl19 sl20 sl21 sl22 sl23 sl24 sl25 sl26 sl27 sl28 sl29 sl30 sl31 sl32 sl33 sl34 sl35 sl36 sl37 sl38 sl39 sl40 sl41 sl42 sl43 slH0 : Array (Option Value)} {oc0 kV0 dc0 pm0 cd0 ct0 oc1 kV1 dc1 pm1 cd1 ct1 oc2 kV2 dc2 pm2 cd2 ct2 oc3 kV3 dc3 pm3 cd3 ct3 oc4 kV4 dc4 pm4 cd4 ct4 oc5 kV5 dc5 pm5 cd5 ct5 oc6 kV6 dc6 pm6 cd6 ct6 oc7 kV7 dc7 pm7 cd7 ct7 oc8 kV8 dc8 pm8 cd8 ct8 oc9 kV9 dc9 pm9 cd9 ct9 oc10 kV10 dc10 pm10 cd10 ct10 oc11 kV11 dc11 pm11 cd11 ct11 oc12 kV12 dc12 pm12 cd12 ct12 oc13 kV13 dc13 pm13 cd13 ct13 oc14 kV14 dc14 pm14 cd14 ct14 oc15 kV15 dc15 pm15 cd15 ct15 oc16 kV16 dc16 pm16 cd16 ct16 oc17 kV17 dc17 pm17 cd17 ct17 oc18 kV18 dc18 pm18 cd18 ct18 oc19 kV19 dc19 pm19 cd19 ct19 oc20 kV20 dc20 pm20 cd20 ct20 oc21 kV21 dc21 pm21 cd21 ct21 oc22 kV22 dc22 pm22 cd22 ct22 oc23 kV23 dc23 pm23 cd23 ct23 oc24 kV24 dc24 pm24 cd24 ct24 oc25 kV25 dc25 pm25 cd25 ct25 oc26 kV26 dc26 pm26 cd26 ct26 oc27 kV27 dc27 pm27 cd27 ct27 oc28 kV28 dc28 pm28 cd28 ct28 oc29 kV29 dc29 pm29 cd29 ct29 oc30 kV30 dc30 pm30 cd30 ct30 oc31 kV31 dc31 pm31 cd31 ct31 oc32 kV32 dc32 pm32 cd32 ct32 oc33 kV33 dc33 pm33 cd33 ct33 oc34 kV34 dc34 pm34 cd34 ct34 oc35 kV35 dc35 pm35 cd35 ct35 oc36 kV36 dc36 pm36 cd36 ct36 oc37 kV37 dc37 pm37 cd37 ct37 oc38 kV38 dc38 pm38 cd38 ct38 oc39 kV39 dc39 pm39 cd39 ct39 oc40 kV40 dc40 pm40 cd40 ct40 oc41 kV41 dc41 pm41 cd41 ct41 oc42 kV42 dc42 pm42  ct42 oc43 kV43 dc43 pm43 cd43 ct43 ocH0 kVH0 dcH0 pmH0 cdH0 ctH0 : Value}
    {NLAST_MINUTE NMOST_DESKS : Nat}
    {tc16 : Value} {td16 : Option Addr} {tn16 : Nat} {ts16 : Array (Option Value)}
    {xo42 : Value} {xd42 : Option Addr} {xv42 : Array Value} {xs42 : Array (Option Value)}
    (th42 : PySem.W.CodeHd h cc42 P42 ∧ h.get? P42 = some tab0)
    (aC_Hours : PySem.W.nsIn K mainGlobals "Hours" = some (some (.ref C_Hours)))
    (pgC_Hours : PySem.W.plainGet K C_Hours Str.empty = true)
    (hdC_Hours : PySem.W.hasDictIn K C_Hours = true)
    (poC_Hours : PySem.W.plainOver K C_Hours = true)
    (saC_Hours : PySem.W.findIn K (.ref C_Hours) "__setattr__" = some (some (.builtin "object.__setattr__")))
    (mkC_Hours : PySem.W.makesIn K C_Hours = true)
    (kcC_Hours : PySem.W.keepIn K (.ref C_Hours) = true)
    (haC_Hours : PySem.W.findIn K (.ref C_Hours) "__class__" = some (some (.builtin "object.__class__")))
    (hmC_Hours : PySem.W.mroIn K C_Hours (.type "object") = some true)
    (n_spansC_Hours : PySem.W.findIn K (.ref C_Hours) "_spans" = some none)
    (oc_hn : PySem.W.specialIn K (.builtin "object.__class__") "__get__" = some (some (.builtin "getset_descriptor.__get__")))
    (oc_ht : PySem.W.takesIn K (.builtin "object.__class__") = some true)
    (aC_BadPart : PySem.W.nsIn K mainGlobals "BadPart" = some (some (.ref C_BadPart)))
    (xC_BadPart : K.lookup C_BadPart = some (excClassObj nm_BadPart q_BadPart C_BadPart N_BadPart bs_BadPart [.ref C_DayError, .type "ValueError", .type "Exception", .type "BaseException", .type "object"] true sn_BadPart sub_BadPart ab_BadPart col_BadPart dd_BadPart m0_BadPart m1_BadPart m2_BadPart m3_BadPart m5_BadPart "ValueError.__new__"))
    (saC_BadPart : PySem.W.findIn K (.ref C_BadPart) "__setattr__" = some (some (.builtin "object.__setattr__")))
    (gaC_BadPart : PySem.W.findIn K (.ref C_BadPart) "__getattribute__" = some (some (.builtin "BaseException.__getattribute__")))
    (ggC_BadPart : PySem.W.findIn K (.ref C_BadPart) "__getattr__" = some none)
    (nbC_BadPart : PySem.W.findIn K (.ref C_BadPart) "part" = some none)
    (iC_BadPart : PySem.W.findIn K (.ref C_BadPart) "__init__" = some (some (.ref I_BadPart)))
    (tiC_BadPart : PySem.W.typeIn K (.ref I_BadPart) = some (.type "function"))
    (lC_BadPart : K.lookup I_BadPart = some ⟨oc_BadPart, od_BadPart, .func (PySem.W.fnOf "__init__" "BadPart.__init__" (PySem.ErrBadPart.iA ⟨9, 17, 9, 21⟩ ⟨9, 23, 9, 27⟩) (PySem.ErrBadPart.iB ⟨10, 8, 10, 12⟩ ⟨10, 8, 10, 17⟩ ⟨10, 20, 10, 24⟩ ⟨10, 8, 10, 24⟩) PySem.ErrBadPart.iS .none .none dc_BadPart pm_BadPart an_BadPart cd_BadPart ct_BadPart), sl_BadPart⟩)
    (cC_BadPart : PySem.W.codeIn K cd_BadPart "BadPart.__init__" = true)
    (kC_BadPart : PySem.W.keepIn K (.ref C_BadPart) = true)
    (eC_BadPart : PySem.W.subIn K (.ref C_BadPart) (.type "BaseException") = some true)
    (tyC_BadPart : PySem.W.typeIn K (.ref C_BadPart) = some (.type "type"))
    (hdC_BadPart : PySem.W.hasDictIn K C_BadPart = true)
    (icC_BadPart : PySem.W.isClsIn K C_BadPart = true)
    (aC_BadNumber : PySem.W.nsIn K mainGlobals "BadNumber" = some (some (.ref C_BadNumber)))
    (xC_BadNumber : K.lookup C_BadNumber = some (excClassObj nm_BadNumber q_BadNumber C_BadNumber N_BadNumber bs_BadNumber [.ref C_DayError, .type "ValueError", .type "Exception", .type "BaseException", .type "object"] true sn_BadNumber sub_BadNumber ab_BadNumber col_BadNumber dd_BadNumber m0_BadNumber m1_BadNumber m2_BadNumber m3_BadNumber m5_BadNumber "ValueError.__new__"))
    (saC_BadNumber : PySem.W.findIn K (.ref C_BadNumber) "__setattr__" = some (some (.builtin "object.__setattr__")))
    (gaC_BadNumber : PySem.W.findIn K (.ref C_BadNumber) "__getattribute__" = some (some (.builtin "BaseException.__getattribute__")))
    (ggC_BadNumber : PySem.W.findIn K (.ref C_BadNumber) "__getattr__" = some none)
    (nbC_BadNumber : PySem.W.findIn K (.ref C_BadNumber) "number" = some none)
    (iC_BadNumber : PySem.W.findIn K (.ref C_BadNumber) "__init__" = some (some (.ref I_BadNumber)))
    (tiC_BadNumber : PySem.W.typeIn K (.ref I_BadNumber) = some (.type "function"))
    (lC_BadNumber : K.lookup I_BadNumber = some ⟨oc_BadNumber, od_BadNumber, .func (PySem.W.fnOf "__init__" "BadNumber.__init__" (PySem.ErrBadNumber.iA ⟨13, 17, 13, 21⟩ ⟨13, 23, 13, 29⟩) (PySem.ErrBadNumber.iB ⟨14, 8, 14, 12⟩ ⟨14, 8, 14, 19⟩ ⟨14, 22, 14, 28⟩ ⟨14, 8, 14, 28⟩) PySem.ErrBadNumber.iS .none .none dc_BadNumber pm_BadNumber an_BadNumber cd_BadNumber ct_BadNumber), sl_BadNumber⟩)
    (cC_BadNumber : PySem.W.codeIn K cd_BadNumber "BadNumber.__init__" = true)
    (kC_BadNumber : PySem.W.keepIn K (.ref C_BadNumber) = true)
    (eC_BadNumber : PySem.W.subIn K (.ref C_BadNumber) (.type "BaseException") = some true)
    (tyC_BadNumber : PySem.W.typeIn K (.ref C_BadNumber) = some (.type "type"))
    (hdC_BadNumber : PySem.W.hasDictIn K C_BadNumber = true)
    (icC_BadNumber : PySem.W.isClsIn K C_BadNumber = true)
    (aC_BadIndex : PySem.W.nsIn K mainGlobals "BadIndex" = some (some (.ref C_BadIndex)))
    (xC_BadIndex : K.lookup C_BadIndex = some (excClassObj nm_BadIndex q_BadIndex C_BadIndex N_BadIndex bs_BadIndex [.ref C_DayError, .type "ValueError", .type "Exception", .type "BaseException", .type "object"] true sn_BadIndex sub_BadIndex ab_BadIndex col_BadIndex dd_BadIndex m0_BadIndex m1_BadIndex m2_BadIndex m3_BadIndex m5_BadIndex "ValueError.__new__"))
    (saC_BadIndex : PySem.W.findIn K (.ref C_BadIndex) "__setattr__" = some (some (.builtin "object.__setattr__")))
    (gaC_BadIndex : PySem.W.findIn K (.ref C_BadIndex) "__getattribute__" = some (some (.builtin "BaseException.__getattribute__")))
    (ggC_BadIndex : PySem.W.findIn K (.ref C_BadIndex) "__getattr__" = some none)
    (nbC_BadIndex : PySem.W.findIn K (.ref C_BadIndex) "index" = some none)
    (iC_BadIndex : PySem.W.findIn K (.ref C_BadIndex) "__init__" = some (some (.ref I_BadIndex)))
    (tiC_BadIndex : PySem.W.typeIn K (.ref I_BadIndex) = some (.type "function"))
    (lC_BadIndex : K.lookup I_BadIndex = some ⟨oc_BadIndex, od_BadIndex, .func (PySem.W.fnOf "__init__" "BadIndex.__init__" (PySem.ErrBadIndex.iA ⟨17, 17, 17, 21⟩ ⟨17, 23, 17, 28⟩) (PySem.ErrBadIndex.iB ⟨18, 8, 18, 12⟩ ⟨18, 8, 18, 18⟩ ⟨18, 21, 18, 26⟩ ⟨18, 8, 18, 26⟩) PySem.ErrBadIndex.iS .none .none dc_BadIndex pm_BadIndex an_BadIndex cd_BadIndex ct_BadIndex), sl_BadIndex⟩)
    (cC_BadIndex : PySem.W.codeIn K cd_BadIndex "BadIndex.__init__" = true)
    (kC_BadIndex : PySem.W.keepIn K (.ref C_BadIndex) = true)
    (eC_BadIndex : PySem.W.subIn K (.ref C_BadIndex) (.type "BaseException") = some true)
    (tyC_BadIndex : PySem.W.typeIn K (.ref C_BadIndex) = some (.type "type"))
    (hdC_BadIndex : PySem.W.hasDictIn K C_BadIndex = true)
    (icC_BadIndex : PySem.W.isClsIn K C_BadIndex = true)
    (su_BadPart_BadPart : PySem.W.subIn K (.ref C_BadPart) (.ref C_BadPart) = some true)
    (su_BadPart_BadNumber : PySem.W.subIn K (.ref C_BadPart) (.ref C_BadNumber) = some false)
    (su_BadPart_BadIndex : PySem.W.subIn K (.ref C_BadPart) (.ref C_BadIndex) = some false)
    (su_BadNumber_BadPart : PySem.W.subIn K (.ref C_BadNumber) (.ref C_BadPart) = some false)
    (su_BadNumber_BadNumber : PySem.W.subIn K (.ref C_BadNumber) (.ref C_BadNumber) = some true)
    (su_BadNumber_BadIndex : PySem.W.subIn K (.ref C_BadNumber) (.ref C_BadIndex) = some false)
    (su_BadIndex_BadPart : PySem.W.subIn K (.ref C_BadIndex) (.ref C_BadPart) = some false)
    (su_BadIndex_BadNumber : PySem.W.subIn K (.ref C_BadIndex) (.ref C_BadNumber) = some false)
    (su_BadIndex_BadIndex : PySem.W.subIn K (.ref C_BadIndex) (.ref C_BadIndex) = some true)
    (Z_isinstance : PySem.W.nsIn K mainGlobals "isinstance" = some none)
    (Z_int : PySem.W.nsIn K mainGlobals "int" = some none)
    (Z_bool : PySem.W.nsIn K mainGlobals "bool" = some none)
    (Z_list : PySem.W.nsIn K mainGlobals "list" = some none)
    (Z_tuple : PySem.W.nsIn K mainGlobals "tuple" = some none)
    (Z_all : PySem.W.nsIn K mainGlobals "all" = some none)
    (Z_sorted : PySem.W.nsIn K mainGlobals "sorted" = some none)
    (Z_len : PySem.W.nsIn K mainGlobals "len" = some none)
    (Z_range : PySem.W.nsIn K mainGlobals "range" = some none)
    (Z_max : PySem.W.nsIn K mainGlobals "max" = some none)
    (Z_any : PySem.W.nsIn K mainGlobals "any" = some none)
    (Z_zip : PySem.W.nsIn K mainGlobals "zip" = some none)
    (Z_min : PySem.W.nsIn K mainGlobals "min" = some none)
    (Z_repr : PySem.W.nsIn K mainGlobals "repr" = some none)
    (N_LAST_MINUTE : PySem.W.nsIn K mainGlobals "LAST_MINUTE" = some (some (.int 9999 NLAST_MINUTE)))
    (N_MOST_DESKS : PySem.W.nsIn K mainGlobals "MOST_DESKS" = some (some (.int 3 NMOST_DESKS)))
    (S_int_Hours : PySem.W.subIn K (.ref C_Hours) (.type "int") = some false)
    (S_bool_Hours : PySem.W.subIn K (.ref C_Hours) (.type "bool") = some false)
    (S_list_Hours : PySem.W.subIn K (.ref C_Hours) (.type "list") = some false)
    (S_tuple_Hours : PySem.W.subIn K (.ref C_Hours) (.type "tuple") = some false)
    (iC_Hours : PySem.W.isClsIn K C_Hours = true)
    (tC_Hours : PySem.W.typeIn K (.ref C_Hours) = some (.type "type"))
    (a0 : PySem.W.nsIn K mainGlobals "is_whole" = some (some (.ref f0)))
    (l0 : K.lookup f0 = some ⟨oc0, od0, .func (PySem.W.fnOf "is_whole" "is_whole" (defArgs (top 9)) (defBody (top 9)) (defScope (top 9)) .none kV0 dc0 pm0 an0 cd0 ct0), sl0⟩)
    (c0 : PySem.W.codeIn K cd0 "is_whole" = true)
    (k0 : PySem.W.keepIn K (.ref f0) = true)
    (a1 : PySem.W.nsIn K mainGlobals "is_between" = some (some (.ref f1)))
    (l1 : K.lookup f1 = some ⟨oc1, od1, .func (PySem.W.fnOf "is_between" "is_between" (defArgs (top 10)) (defBody (top 10)) (defScope (top 10)) .none kV1 dc1 pm1 an1 cd1 ct1), sl1⟩)
    (c1 : PySem.W.codeIn K cd1 "is_between" = true)
    (k1 : PySem.W.keepIn K (.ref f1) = true)
    (a2 : PySem.W.nsIn K mainGlobals "is_count" = some (some (.ref f2)))
    (l2 : K.lookup f2 = some ⟨oc2, od2, .func (PySem.W.fnOf "is_count" "is_count" (defArgs (top 11)) (defBody (top 11)) (defScope (top 11)) .none kV2 dc2 pm2 an2 cd2 ct2), sl2⟩)
    (c2 : PySem.W.codeIn K cd2 "is_count" = true)
    (k2 : PySem.W.keepIn K (.ref f2) = true)
    (a3 : PySem.W.nsIn K mainGlobals "is_told_minute" = some (some (.ref f3)))
    (l3 : K.lookup f3 = some ⟨oc3, od3, .func (PySem.W.fnOf "is_told_minute" "is_told_minute" (defArgs (top 12)) (defBody (top 12)) (defScope (top 12)) .none kV3 dc3 pm3 an3 cd3 ct3), sl3⟩)
    (c3 : PySem.W.codeIn K cd3 "is_told_minute" = true)
    (k3 : PySem.W.keepIn K (.ref f3) = true)
    (a4 : PySem.W.nsIn K mainGlobals "is_count_or_never" = some (some (.ref f4)))
    (l4 : K.lookup f4 = some ⟨oc4, od4, .func (PySem.W.fnOf "is_count_or_never" "is_count_or_never" (defArgs (top 13)) (defBody (top 13)) (defScope (top 13)) .none kV4 dc4 pm4 an4 cd4 ct4), sl4⟩)
    (c4 : PySem.W.codeIn K cd4 "is_count_or_never" = true)
    (k4 : PySem.W.keepIn K (.ref f4) = true)
    (a5 : PySem.W.nsIn K mainGlobals "is_listed" = some (some (.ref f5)))
    (l5 : K.lookup f5 = some ⟨oc5, od5, .func (PySem.W.fnOf "is_listed" "is_listed" (defArgs (top 14)) (defBody (top 14)) (defScope (top 14)) .none kV5 dc5 pm5 an5 cd5 ct5), sl5⟩)
    (c5 : PySem.W.codeIn K cd5 "is_listed" = true)
    (k5 : PySem.W.keepIn K (.ref f5) = true)
    (a6 : PySem.W.nsIn K mainGlobals "need_count" = some (some (.ref f6)))
    (l6 : K.lookup f6 = some ⟨oc6, od6, .func (PySem.W.fnOf "need_count" "need_count" (defArgs (top 16)) (defBody (top 16)) (defScope (top 16)) .none kV6 dc6 pm6 an6 cd6 ct6), sl6⟩)
    (c6 : PySem.W.codeIn K cd6 "need_count" = true)
    (k6 : PySem.W.keepIn K (.ref f6) = true)
    (a7 : PySem.W.nsIn K mainGlobals "need_minute" = some (some (.ref f7)))
    (l7 : K.lookup f7 = some ⟨oc7, od7, .func (PySem.W.fnOf "need_minute" "need_minute" (defArgs (top 17)) (defBody (top 17)) (defScope (top 17)) .none kV7 dc7 pm7 an7 cd7 ct7), sl7⟩)
    (c7 : PySem.W.codeIn K cd7 "need_minute" = true)
    (k7 : PySem.W.keepIn K (.ref f7) = true)
    (a8 : PySem.W.nsIn K mainGlobals "need_minutes" = some (some (.ref f8)))
    (l8 : K.lookup f8 = some ⟨oc8, od8, .func (PySem.W.fnOf "need_minutes" "need_minutes" (defArgs (top 18)) (defBody (top 18)) (defScope (top 18)) .none kV8 dc8 pm8 an8 cd8 ct8), sl8⟩)
    (c8 : PySem.W.codeIn K cd8 "need_minutes" = true)
    (k8 : PySem.W.keepIn K (.ref f8) = true)
    (a9 : PySem.W.nsIn K mainGlobals "need_desks" = some (some (.ref f9)))
    (l9 : K.lookup f9 = some ⟨oc9, od9, .func (PySem.W.fnOf "need_desks" "need_desks" (defArgs (top 19)) (defBody (top 19)) (defScope (top 19)) .none kV9 dc9 pm9 an9 cd9 ct9), sl9⟩)
    (c9 : PySem.W.codeIn K cd9 "need_desks" = true)
    (k9 : PySem.W.keepIn K (.ref f9) = true)
    (a10 : PySem.W.nsIn K mainGlobals "minutes_more" = some (some (.ref f10)))
    (l10 : K.lookup f10 = some ⟨oc10, od10, .func (PySem.W.fnOf "minutes_more" "minutes_more" (defArgs (top 21)) (defBody (top 21)) (defScope (top 21)) .none kV10 dc10 pm10 an10 cd10 ct10), sl10⟩)
    (c10 : PySem.W.codeIn K cd10 "minutes_more" = true)
    (k10 : PySem.W.keepIn K (.ref f10) = true)
    (a11 : PySem.W.nsIn K mainGlobals "nth_least" = some (some (.ref f11)))
    (l11 : K.lookup f11 = some ⟨oc11, od11, .func (PySem.W.fnOf "nth_least" "nth_least" (defArgs (top 22)) (defBody (top 22)) (defScope (top 22)) .none kV11 dc11 pm11 an11 cd11 ct11), sl11⟩)
    (c11 : PySem.W.codeIn K cd11 "nth_least" = true)
    (k11 : PySem.W.keepIn K (.ref f11) = true)
    (a12 : PySem.W.nsIn K mainGlobals "is_span" = some (some (.ref f12)))
    (l12 : K.lookup f12 = some ⟨oc12, od12, .func (PySem.W.fnOf "is_span" "is_span" (defArgs (top 24)) (defBody (top 24)) (defScope (top 24)) .none kV12 dc12 pm12 an12 cd12 ct12), sl12⟩)
    (c12 : PySem.W.codeIn K cd12 "is_span" = true)
    (k12 : PySem.W.keepIn K (.ref f12) = true)
    (a13 : PySem.W.nsIn K mainGlobals "are_spans" = some (some (.ref f13)))
    (l13 : K.lookup f13 = some ⟨oc13, od13, .func (PySem.W.fnOf "are_spans" "are_spans" (defArgs (top 25)) (defBody (top 25)) (defScope (top 25)) .none kV13 dc13 pm13 an13 cd13 ct13), sl13⟩)
    (c13 : PySem.W.codeIn K cd13 "are_spans" = true)
    (k13 : PySem.W.keepIn K (.ref f13) = true)
    (a14 : PySem.W.nsIn K mainGlobals "gate_of" = some (some (.ref f14)))
    (l14 : K.lookup f14 = some ⟨oc14, od14, .func (PySem.W.fnOf "gate_of" "gate_of" (defArgs (top 26)) (defBody (top 26)) (defScope (top 26)) .none kV14 dc14 pm14 an14 cd14 ct14), sl14⟩)
    (c14 : PySem.W.codeIn K cd14 "gate_of" = true)
    (k14 : PySem.W.keepIn K (.ref f14) = true)
    (a15 : PySem.W.nsIn K mainGlobals "are_within" = some (some (.ref f15)))
    (l15 : K.lookup f15 = some ⟨oc15, od15, .func (PySem.W.fnOf "are_within" "are_within" (defArgs (top 27)) (defBody (top 27)) (defScope (top 27)) .none kV15 dc15 pm15 an15 cd15 ct15), sl15⟩)
    (c15 : PySem.W.codeIn K cd15 "are_within" = true)
    (k15 : PySem.W.keepIn K (.ref f15) = true)
    (a16 : PySem.W.findIn K (.ref C_Hours) "__init__" = some (some (.ref f16)))
    (i16 : PySem.W.isFn K (.ref f16) = true)
    (l16 : K.lookup f16 = some ⟨oc16, od16, .func (PySem.W.fnOf "__init__" "Hours.__init__" (defArgs (inTop 28 0)) (defBody (inTop 28 0)) (defScope (inTop 28 0)) (.ref t16) kV16 dc16 pm16 an16 cd16 ct16), sl16⟩)
    (c16 : PySem.W.codeIn K cd16 "Hours.__init__" = true)
    (k16 : PySem.W.keepIn K (.ref f16) = true)
    (t16_ : K.lookup t16 = some ⟨tc16, td16, .seq [Value.none].toArray tn16, ts16⟩)
    (a17 : PySem.W.findIn K (.ref C_Hours) "__eq__" = some (some (.ref f17)))
    (i17 : PySem.W.isFn K (.ref f17) = true)
    (l17 : K.lookup f17 = some ⟨oc17, od17, .func (PySem.W.fnOf "__eq__" "Hours.__eq__" (defArgs (inTop 28 1)) (defBody (inTop 28 1)) (defScope (inTop 28 1)) .none kV17 dc17 pm17 an17 cd17 ct17), sl17⟩)
    (c17 : PySem.W.codeIn K cd17 "Hours.__eq__" = true)
    (k17 : PySem.W.keepIn K (.ref f17) = true)
    (a18 : PySem.W.findIn K (.ref C_Hours) "__le__" = some (some (.ref f18)))
    (i18 : PySem.W.isFn K (.ref f18) = true)
    (l18 : K.lookup f18 = some ⟨oc18, od18, .func (PySem.W.fnOf "__le__" "Hours.__le__" (defArgs (inTop 28 2)) (defBody (inTop 28 2)) (defScope (inTop 28 2)) .none kV18 dc18 pm18 an18 cd18 ct18), sl18⟩)
    (c18 : PySem.W.codeIn K cd18 "Hours.__le__" = true)
    (k18 : PySem.W.keepIn K (.ref f18) = true)
    (a19 : PySem.W.findIn K (.ref C_Hours) "spans" = some (some (.ref f19)))
    (i19 : PySem.W.isFn K (.ref f19) = true)
    (l19 : K.lookup f19 = some ⟨oc19, od19, .func (PySem.W.fnOf "spans" "Hours.spans" (defArgs (inTop 28 3)) (defBody (inTop 28 3)) (defScope (inTop 28 3)) .none kV19 dc19 pm19 an19 cd19 ct19), sl19⟩)
    (c19 : PySem.W.codeIn K cd19 "Hours.spans" = true)
    (k19 : PySem.W.keepIn K (.ref f19) = true)
    (a20 : PySem.W.findIn K (.ref C_Hours) "gate" = some (some (.ref f20)))
    (i20 : PySem.W.isFn K (.ref f20) = true)
    (l20 : K.lookup f20 = some ⟨oc20, od20, .func (PySem.W.fnOf "gate" "Hours.gate" (defArgs (inTop 28 4)) (defBody (inTop 28 4)) (defScope (inTop 28 4)) .none kV20 dc20 pm20 an20 cd20 ct20), sl20⟩)
    (c20 : PySem.W.codeIn K cd20 "Hours.gate" = true)
    (k20 : PySem.W.keepIn K (.ref f20) = true)
    (a21 : PySem.W.nsIn K mainGlobals "later_by" = some (some (.ref f21)))
    (l21 : K.lookup f21 = some ⟨oc21, od21, .func (PySem.W.fnOf "later_by" "later_by" (defArgs (top 30)) (defBody (top 30)) (defScope (top 30)) .none kV21 dc21 pm21 an21 cd21 ct21), sl21⟩)
    (c21 : PySem.W.codeIn K cd21 "later_by" = true)
    (k21 : PySem.W.keepIn K (.ref f21) = true)
    (a22 : PySem.W.nsIn K mainGlobals "greatest" = some (some (.ref f22)))
    (l22 : K.lookup f22 = some ⟨oc22, od22, .func (PySem.W.fnOf "greatest" "greatest" (defArgs (top 31)) (defBody (top 31)) (defScope (top 31)) .none kV22 dc22 pm22 an22 cd22 ct22), sl22⟩)
    (c22 : PySem.W.codeIn K cd22 "greatest" = true)
    (k22 : PySem.W.keepIn K (.ref f22) = true)
    (a23 : PySem.W.nsIn K mainGlobals "desk_free" = some (some (.ref f23)))
    (l23 : K.lookup f23 = some ⟨oc23, od23, .func (PySem.W.fnOf "desk_free" "desk_free" (defArgs (top 32)) (defBody (top 32)) (defScope (top 32)) .none kV23 dc23 pm23 an23 cd23 ct23), sl23⟩)
    (c23 : PySem.W.codeIn K cd23 "desk_free" = true)
    (k23 : PySem.W.keepIn K (.ref f23) = true)
    (a24 : PySem.W.nsIn K mainGlobals "need_hours" = some (some (.ref f24)))
    (l24 : K.lookup f24 = some ⟨oc24, od24, .func (PySem.W.fnOf "need_hours" "need_hours" (defArgs (top 34)) (defBody (top 34)) (defScope (top 34)) .none kV24 dc24 pm24 an24 cd24 ct24), sl24⟩)
    (c24 : PySem.W.codeIn K cd24 "need_hours" = true)
    (k24 : PySem.W.keepIn K (.ref f24) = true)
    (a25 : PySem.W.nsIn K mainGlobals "need_lengths" = some (some (.ref f25)))
    (l25 : K.lookup f25 = some ⟨oc25, od25, .func (PySem.W.fnOf "need_lengths" "need_lengths" (defArgs (top 35)) (defBody (top 35)) (defScope (top 35)) .none kV25 dc25 pm25 an25 cd25 ct25), sl25⟩)
    (c25 : PySem.W.codeIn K cd25 "need_lengths" = true)
    (k25 : PySem.W.keepIn K (.ref f25) = true)
    (a26 : PySem.W.nsIn K mainGlobals "counter_begin" = some (some (.ref f26)))
    (l26 : K.lookup f26 = some ⟨oc26, od26, .func (PySem.W.fnOf "counter_begin" "counter_begin" (defArgs (top 36)) (defBody (top 36)) (defScope (top 36)) .none kV26 dc26 pm26 an26 cd26 ct26), sl26⟩)
    (c26 : PySem.W.codeIn K cd26 "counter_begin" = true)
    (k26 : PySem.W.keepIn K (.ref f26) = true)
    (a27 : PySem.W.nsIn K mainGlobals "counter_row" = some (some (.ref f27)))
    (l27 : K.lookup f27 = some ⟨oc27, od27, .func (PySem.W.fnOf "counter_row" "counter_row" (defArgs (top 37)) (defBody (top 37)) (defScope (top 37)) .none kV27 dc27 pm27 an27 cd27 ct27), sl27⟩)
    (c27 : PySem.W.codeIn K cd27 "counter_row" = true)
    (k27 : PySem.W.keepIn K (.ref f27) = true)
    (a28 : PySem.W.nsIn K mainGlobals "_law_pool" = some (some (.ref f28)))
    (l28 : K.lookup f28 = some ⟨oc28, od28, .func (PySem.W.fnOf "_law_pool" "_law_pool" (defArgs (top 39)) (defBody (top 39)) (defScope (top 39)) .none kV28 dc28 pm28 an28 cd28 ct28), sl28⟩)
    (c28 : PySem.W.codeIn K cd28 "_law_pool" = true)
    (k28 : PySem.W.keepIn K (.ref f28) = true)
    (a29 : PySem.W.nsIn K mainGlobals "_law_take" = some (some (.ref f29)))
    (l29 : K.lookup f29 = some ⟨oc29, od29, .func (PySem.W.fnOf "_law_take" "_law_take" (defArgs (top 40)) (defBody (top 40)) (defScope (top 40)) .none kV29 dc29 pm29 an29 cd29 ct29), sl29⟩)
    (c29 : PySem.W.codeIn K cd29 "_law_take" = true)
    (k29 : PySem.W.keepIn K (.ref f29) = true)
    (a30 : PySem.W.nsIn K mainGlobals "_law_one" = some (some (.ref f30)))
    (l30 : K.lookup f30 = some ⟨oc30, od30, .func (PySem.W.fnOf "_law_one" "_law_one" (defArgs (top 41)) (defBody (top 41)) (defScope (top 41)) .none kV30 dc30 pm30 an30 cd30 ct30), sl30⟩)
    (c30 : PySem.W.codeIn K cd30 "_law_one" = true)
    (k30 : PySem.W.keepIn K (.ref f30) = true)
    (a31 : PySem.W.nsIn K mainGlobals "_law_rounds" = some (some (.ref f31)))
    (l31 : K.lookup f31 = some ⟨oc31, od31, .func (PySem.W.fnOf "_law_rounds" "_law_rounds" (defArgs (top 42)) (defBody (top 42)) (defScope (top 42)) .none kV31 dc31 pm31 an31 cd31 ct31), sl31⟩)
    (c31 : PySem.W.codeIn K cd31 "_law_rounds" = true)
    (k31 : PySem.W.keepIn K (.ref f31) = true)
    (a32 : PySem.W.nsIn K mainGlobals "_law_spans" = some (some (.ref f32)))
    (l32 : K.lookup f32 = some ⟨oc32, od32, .func (PySem.W.fnOf "_law_spans" "_law_spans" (defArgs (top 44)) (defBody (top 44)) (defScope (top 44)) .none kV32 dc32 pm32 an32 cd32 ct32), sl32⟩)
    (c32 : PySem.W.codeIn K cd32 "_law_spans" = true)
    (k32 : PySem.W.keepIn K (.ref f32) = true)
    (a33 : PySem.W.nsIn K mainGlobals "_law_gate" = some (some (.ref f33)))
    (l33 : K.lookup f33 = some ⟨oc33, od33, .func (PySem.W.fnOf "_law_gate" "_law_gate" (defArgs (top 45)) (defBody (top 45)) (defScope (top 45)) .none kV33 dc33 pm33 an33 cd33 ct33), sl33⟩)
    (c33 : PySem.W.codeIn K cd33 "_law_gate" = true)
    (k33 : PySem.W.keepIn K (.ref f33) = true)
    (a34 : PySem.W.nsIn K mainGlobals "_law_rank" = some (some (.ref f34)))
    (l34 : K.lookup f34 = some ⟨oc34, od34, .func (PySem.W.fnOf "_law_rank" "_law_rank" (defArgs (top 46)) (defBody (top 46)) (defScope (top 46)) .none kV34 dc34 pm34 an34 cd34 ct34), sl34⟩)
    (c34 : PySem.W.codeIn K cd34 "_law_rank" = true)
    (k34 : PySem.W.keepIn K (.ref f34) = true)
    (a35 : PySem.W.nsIn K mainGlobals "_law_moment" = some (some (.ref f35)))
    (l35 : K.lookup f35 = some ⟨oc35, od35, .func (PySem.W.fnOf "_law_moment" "_law_moment" (defArgs (top 47)) (defBody (top 47)) (defScope (top 47)) .none kV35 dc35 pm35 an35 cd35 ct35), sl35⟩)
    (c35 : PySem.W.codeIn K cd35 "_law_moment" = true)
    (k35 : PySem.W.keepIn K (.ref f35) = true)
    (a36 : PySem.W.nsIn K mainGlobals "_law_sorted" = some (some (.ref f36)))
    (l36 : K.lookup f36 = some ⟨oc36, od36, .func (PySem.W.fnOf "_law_sorted" "_law_sorted" (defArgs (top 48)) (defBody (top 48)) (defScope (top 48)) .none kV36 dc36 pm36 an36 cd36 ct36), sl36⟩)
    (c36 : PySem.W.codeIn K cd36 "_law_sorted" = true)
    (k36 : PySem.W.keepIn K (.ref f36) = true)
    (a37 : PySem.W.nsIn K mainGlobals "_law_more" = some (some (.ref f37)))
    (l37 : K.lookup f37 = some ⟨oc37, od37, .func (PySem.W.fnOf "_law_more" "_law_more" (defArgs (top 49)) (defBody (top 49)) (defScope (top 49)) .none kV37 dc37 pm37 an37 cd37 ct37), sl37⟩)
    (c37 : PySem.W.codeIn K cd37 "_law_more" = true)
    (k37 : PySem.W.keepIn K (.ref f37) = true)
    (a38 : PySem.W.nsIn K mainGlobals "_law_max" = some (some (.ref f38)))
    (l38 : K.lookup f38 = some ⟨oc38, od38, .func (PySem.W.fnOf "_law_max" "_law_max" (defArgs (top 50)) (defBody (top 50)) (defScope (top 50)) .none kV38 dc38 pm38 an38 cd38 ct38), sl38⟩)
    (c38 : PySem.W.codeIn K cd38 "_law_max" = true)
    (k38 : PySem.W.keepIn K (.ref f38) = true)
    (a39 : PySem.W.nsIn K mainGlobals "_law_min" = some (some (.ref f39)))
    (l39 : K.lookup f39 = some ⟨oc39, od39, .func (PySem.W.fnOf "_law_min" "_law_min" (defArgs (top 51)) (defBody (top 51)) (defScope (top 51)) .none kV39 dc39 pm39 an39 cd39 ct39), sl39⟩)
    (c39 : PySem.W.codeIn K cd39 "_law_min" = true)
    (k39 : PySem.W.keepIn K (.ref f39) = true)
    (a40 : PySem.W.nsIn K mainGlobals "_law_counter" = some (some (.ref f40)))
    (l40 : K.lookup f40 = some ⟨oc40, od40, .func (PySem.W.fnOf "_law_counter" "_law_counter" (defArgs (top 52)) (defBody (top 52)) (defScope (top 52)) .none kV40 dc40 pm40 an40 cd40 ct40), sl40⟩)
    (c40 : PySem.W.codeIn K cd40 "_law_counter" = true)
    (k40 : PySem.W.keepIn K (.ref f40) = true)
    (a41 : PySem.W.nsIn K mainGlobals "_law_row_right" = some (some (.ref f41)))
    (l41 : K.lookup f41 = some ⟨oc41, od41, .func (PySem.W.fnOf "_law_row_right" "_law_row_right" (defArgs (top 53)) (defBody (top 53)) (defScope (top 53)) .none kV41 dc41 pm41 an41 cd41 ct41), sl41⟩)
    (c41 : PySem.W.codeIn K cd41 "_law_row_right" = true)
    (k41 : PySem.W.keepIn K (.ref f41) = true)
    (a42 : PySem.W.nsIn K mainGlobals "_law_refuses" = some (some (.ref f42)))
    (l42 : K.lookup f42 = some ⟨oc42, od42, .func (PySem.W.fnOf "_law_refuses" "_law_refuses" (defArgs (top 54)) (defBody (top 54)) (defScope (top 54)) .none kV42 dc42 pm42 an42 (.ref cc42) ct42), sl42⟩)
    (c42 : PySem.W.codeIn K (.ref cc42) "_law_refuses" = true)
    (k42 : PySem.W.keepIn K (.ref f42) = true)
    (xc42 : K.lookup cc42 = some ⟨xo42, xd42, .fields xv42, xs42⟩)
    (xp42 : (xv42[11]? : Option Value) = some (.ref P42))
    (n42 : K.lookup P42 = none)
    (a43 : PySem.W.nsIn K mainGlobals "law" = some (some (.ref f43)))
    (l43 : K.lookup f43 = some ⟨oc43, od43, .func (PySem.W.fnOf "law" "law" (defArgs (top 55)) (defBody (top 55)) (defScope (top 55)) .none kV43 dc43 pm43 an43 cd43 ct43), sl43⟩)
    (c43 : PySem.W.codeIn K cd43 "law" = true)
    (k43 : PySem.W.keepIn K (.ref f43) = true)
    (aH0 : PySem.W.nsIn K mainGlobals "_law_heard" = some (some (.ref fH0)))
    (lH0 : K.lookup fH0 = some ⟨ocH0, odH0, .func (PySem.W.fnOf "_law_heard" "_law_heard" (defArgs (top 43)) (defBody (top 43)) (defScope (top 43)) .none kVH0 dcH0 pmH0 anH0 cdH0 ctH0), slH0⟩)
    (cH0 : PySem.W.codeIn K cdH0 "_law_heard" = true)
    (kH0 : PySem.W.keepIn K (.ref fH0) = true)
    (math : ∀ [TabsW] [GdW] (ns : List Int), ns.length ≤ 63 → ∃ out, semB g_law 8 none b_law [.lst (ns.map .int)] = .ok (.bl true) out)
    : @LawG ⟨True⟩ l w K (L2.CX l.prog w) 11 63 "_law_script" mg fa h := by
  letI I1 : TabsW := ⟨[(P42, (PySem.Str.ofString "_law_refuses" ++ PySem.Str.ofString ".<locals>." ++ "<lambda>"))]⟩
  letI I0 : GdW := ⟨True⟩
  have e := hfa.symm.trans (PySem.W.mg_of X G a43)
  cases e
  have g_Hours := PySem.W.mg_of X G aC_Hours
  have h_Hours := clsAt_of aC_Hours
  subst h_Hours
  have g_BadPart := PySem.W.mg_of X G aC_BadPart
  have h_BadPart := clsAt_of aC_BadPart
  subst h_BadPart
  have g_BadNumber := PySem.W.mg_of X G aC_BadNumber
  have h_BadNumber := clsAt_of aC_BadNumber
  subst h_BadNumber
  have g_BadIndex := PySem.W.mg_of X G aC_BadIndex
  have h_BadIndex := clsAt_of aC_BadIndex
  subst h_BadIndex
  have T_BadPart : PySem.ErrBadPart.LowTxt K mg (clsAt K "BadPart") I_BadPart := { gC := g_BadPart, cls := ⟨_, _, _, _, _, _, _, _, _, _, _, _, _, _, _, xC_BadPart, by rfl⟩, sa := saC_BadPart, ga := gaC_BadPart, gg := ggC_BadPart, noN := nbC_BadPart, iC := iC_BadPart, tC := tiC_BadPart, kC := kC_BadPart, exC := eC_BadPart, tyC := tyC_BadPart, hdC := hdC_BadPart, te := exm_cc eC_BadPart icC_BadPart tyC_BadPart su_BadPart_BadPart, fn := ⟨_, _, _, _, _, _, _, _, _, _, _, _, _, _, lC_BadPart, cC_BadPart⟩ }
  have T_BadNumber : PySem.ErrBadNumber.LowTxt K mg (clsAt K "BadNumber") I_BadNumber := { gC := g_BadNumber, cls := ⟨_, _, _, _, _, _, _, _, _, _, _, _, _, _, _, xC_BadNumber, by rfl⟩, sa := saC_BadNumber, ga := gaC_BadNumber, gg := ggC_BadNumber, noN := nbC_BadNumber, iC := iC_BadNumber, tC := tiC_BadNumber, kC := kC_BadNumber, exC := eC_BadNumber, tyC := tyC_BadNumber, hdC := hdC_BadNumber, te := exm_cc eC_BadNumber icC_BadNumber tyC_BadNumber su_BadNumber_BadNumber, fn := ⟨_, _, _, _, _, _, _, _, _, _, _, _, _, _, lC_BadNumber, cC_BadNumber⟩ }
  have T_BadIndex : PySem.ErrBadIndex.LowTxt K mg (clsAt K "BadIndex") I_BadIndex := { gC := g_BadIndex, cls := ⟨_, _, _, _, _, _, _, _, _, _, _, _, _, _, _, xC_BadIndex, by rfl⟩, sa := saC_BadIndex, ga := gaC_BadIndex, gg := ggC_BadIndex, noN := nbC_BadIndex, iC := iC_BadIndex, tC := tiC_BadIndex, kC := kC_BadIndex, exC := eC_BadIndex, tyC := tyC_BadIndex, hdC := hdC_BadIndex, te := exm_cc eC_BadIndex icC_BadIndex tyC_BadIndex su_BadIndex_BadIndex, fn := ⟨_, _, _, _, _, _, _, _, _, _, _, _, _, _, lC_BadIndex, cC_BadIndex⟩ }
  have ex_BadPart_BadPart : PySem.W.exmOne K (.ref (clsAt K "BadPart")) (.ref (clsAt K "BadPart")) = some (decide (("BadPart" : Str) = "BadPart")) := (exm_cc eC_BadPart icC_BadPart tyC_BadPart su_BadPart_BadPart).trans (by decide +kernel)
  have ex_BadPart_BadNumber : PySem.W.exmOne K (.ref (clsAt K "BadPart")) (.ref (clsAt K "BadNumber")) = some (decide (("BadPart" : Str) = "BadNumber")) := (exm_cc eC_BadNumber icC_BadNumber tyC_BadNumber su_BadPart_BadNumber).trans (by decide +kernel)
  have ex_BadPart_BadIndex : PySem.W.exmOne K (.ref (clsAt K "BadPart")) (.ref (clsAt K "BadIndex")) = some (decide (("BadPart" : Str) = "BadIndex")) := (exm_cc eC_BadIndex icC_BadIndex tyC_BadIndex su_BadPart_BadIndex).trans (by decide +kernel)
  have ex_BadNumber_BadPart : PySem.W.exmOne K (.ref (clsAt K "BadNumber")) (.ref (clsAt K "BadPart")) = some (decide (("BadNumber" : Str) = "BadPart")) := (exm_cc eC_BadPart icC_BadPart tyC_BadPart su_BadNumber_BadPart).trans (by decide +kernel)
  have ex_BadNumber_BadNumber : PySem.W.exmOne K (.ref (clsAt K "BadNumber")) (.ref (clsAt K "BadNumber")) = some (decide (("BadNumber" : Str) = "BadNumber")) := (exm_cc eC_BadNumber icC_BadNumber tyC_BadNumber su_BadNumber_BadNumber).trans (by decide +kernel)
  have ex_BadNumber_BadIndex : PySem.W.exmOne K (.ref (clsAt K "BadNumber")) (.ref (clsAt K "BadIndex")) = some (decide (("BadNumber" : Str) = "BadIndex")) := (exm_cc eC_BadIndex icC_BadIndex tyC_BadIndex su_BadNumber_BadIndex).trans (by decide +kernel)
  have ex_BadIndex_BadPart : PySem.W.exmOne K (.ref (clsAt K "BadIndex")) (.ref (clsAt K "BadPart")) = some (decide (("BadIndex" : Str) = "BadPart")) := (exm_cc eC_BadPart icC_BadPart tyC_BadPart su_BadIndex_BadPart).trans (by decide +kernel)
  have ex_BadIndex_BadNumber : PySem.W.exmOne K (.ref (clsAt K "BadIndex")) (.ref (clsAt K "BadNumber")) = some (decide (("BadIndex" : Str) = "BadNumber")) := (exm_cc eC_BadNumber icC_BadNumber tyC_BadNumber su_BadIndex_BadNumber).trans (by decide +kernel)
  have ex_BadIndex_BadIndex : PySem.W.exmOne K (.ref (clsAt K "BadIndex")) (.ref (clsAt K "BadIndex")) = some (decide (("BadIndex" : Str) = "BadIndex")) := (exm_cc eC_BadIndex icC_BadIndex tyC_BadIndex su_BadIndex_BadIndex).trans (by decide +kernel)
  have EF__law_heard : ClsFacts K cs__law_heard := ⟨fun c hc c' hc' => by
    unfold cs__law_heard at hc hc'
    simp only [List.mem_cons, List.not_mem_nil, or_false] at hc hc'
    rcases hc with rfl | rfl | rfl <;> rcases hc' with rfl | rfl | rfl <;> first | exact ex_BadPart_BadPart | exact ex_BadPart_BadNumber | exact ex_BadPart_BadIndex | exact ex_BadNumber_BadPart | exact ex_BadNumber_BadNumber | exact ex_BadNumber_BadIndex | exact ex_BadIndex_BadPart | exact ex_BadIndex_BadNumber | exact ex_BadIndex_BadIndex⟩
  have F0 := fun_mk (st := (top 9)) l0 c0 k0
  have b0 := F0.binds (ps := ["value"]) fun _ _ _ _ _ _ us hl => match us, hl with | [_], _ => rfl
  have F1 := fun_mk (st := (top 10)) l1 c1 k1
  have b1 := F1.binds (ps := ["value", "low", "high"]) fun _ _ _ _ _ _ us hl => match us, hl with | [_, _, _], _ => rfl
  have F2 := fun_mk (st := (top 11)) l2 c2 k2
  have b2 := F2.binds (ps := ["value"]) fun _ _ _ _ _ _ us hl => match us, hl with | [_], _ => rfl
  have F3 := fun_mk (st := (top 12)) l3 c3 k3
  have b3 := F3.binds (ps := ["value"]) fun _ _ _ _ _ _ us hl => match us, hl with | [_], _ => rfl
  have F4 := fun_mk (st := (top 13)) l4 c4 k4
  have b4 := F4.binds (ps := ["value"]) fun _ _ _ _ _ _ us hl => match us, hl with | [_], _ => rfl
  have F5 := fun_mk (st := (top 14)) l5 c5 k5
  have b5 := F5.binds (ps := ["value"]) fun _ _ _ _ _ _ us hl => match us, hl with | [_], _ => rfl
  have F6 := fun_mk (st := (top 16)) l6 c6 k6
  have b6 := F6.binds (ps := ["number"]) fun _ _ _ _ _ _ us hl => match us, hl with | [_], _ => rfl
  have F7 := fun_mk (st := (top 17)) l7 c7 k7
  have b7 := F7.binds (ps := ["number"]) fun _ _ _ _ _ _ us hl => match us, hl with | [_], _ => rfl
  have F8 := fun_mk (st := (top 18)) l8 c8 k8
  have b8 := F8.binds (ps := ["part", "minutes"]) fun _ _ _ _ _ _ us hl => match us, hl with | [_, _], _ => rfl
  have F9 := fun_mk (st := (top 19)) l9 c9 k9
  have b9 := F9.binds (ps := ["desks"]) fun _ _ _ _ _ _ us hl => match us, hl with | [_], _ => rfl
  have F10 := fun_mk (st := (top 21)) l10 c10 k10
  have b10 := F10.binds (ps := ["minute", "more"]) fun _ _ _ _ _ _ us hl => match us, hl with | [_, _], _ => rfl
  have F11 := fun_mk (st := (top 22)) l11 c11 k11
  have b11 := F11.binds (ps := ["minutes", "n"]) fun _ _ _ _ _ _ us hl => match us, hl with | [_, _], _ => rfl
  have F12 := fun_mk (st := (top 24)) l12 c12 k12
  have b12 := F12.binds (ps := ["value"]) fun _ _ _ _ _ _ us hl => match us, hl with | [_], _ => rfl
  have F13 := fun_mk (st := (top 25)) l13 c13 k13
  have b13 := F13.binds (ps := ["values"]) fun _ _ _ _ _ _ us hl => match us, hl with | [_], _ => rfl
  have F14 := fun_mk (st := (top 26)) l14 c14 k14
  have b14 := F14.binds (ps := ["spans", "n", "t"]) fun _ _ _ _ _ _ us hl => match us, hl with | [_, _, _], _ => rfl
  have F15 := fun_mk (st := (top 27)) l15 c15 k15
  have b15 := F15.binds (ps := ["spans", "others"]) fun _ _ _ _ _ _ us hl => match us, hl with | [_, _], _ => rfl
  have F16 : FunD K "__init__" "Hours.__init__" (defArgs (inTop 28 0)) (defBody (inTop 28 0)) (defScope (inTop 28 0)) [V.non] [] f16 _ := ⟨⟨_, _, _, _, _, _, _, _, _, _, rfl, l16, c16, .inr ⟨by simp, t16, _, _, _, rfl, t16_, rfl, .cons rfl (.nil)⟩, .inl rfl⟩, k16⟩
  obtain ⟨z16, zv16, b16⟩ := F16.binds1 (ps := ["self", "spans"]) 2 1 (by simp) rfl fun T kV doc pm an cdv ct us its hu hi => match us, hu, its, hi with | [_, _], _, [_], _ => ⟨_, rfl, rfl⟩
  have zz16 : z16 = [] := by cases zv16; rfl
  subst zz16
  have F17 := fun_mk (st := (inTop 28 1)) l17 c17 k17
  have b17 := F17.binds (ps := ["self", "other"]) fun _ _ _ _ _ _ us hl => match us, hl with | [_, _], _ => rfl
  have F18 := fun_mk (st := (inTop 28 2)) l18 c18 k18
  have b18 := F18.binds (ps := ["self", "other"]) fun _ _ _ _ _ _ us hl => match us, hl with | [_, _], _ => rfl
  have F19 := fun_mk (st := (inTop 28 3)) l19 c19 k19
  have b19 := F19.binds (ps := ["self"]) fun _ _ _ _ _ _ us hl => match us, hl with | [_], _ => rfl
  have F20 := fun_mk (st := (inTop 28 4)) l20 c20 k20
  have b20 := F20.binds (ps := ["self", "n", "t"]) fun _ _ _ _ _ _ us hl => match us, hl with | [_, _, _], _ => rfl
  have F21 := fun_mk (st := (top 30)) l21 c21 k21
  have b21 := F21.binds (ps := ["moment", "more"]) fun _ _ _ _ _ _ us hl => match us, hl with | [_, _], _ => rfl
  have F22 := fun_mk (st := (top 31)) l22 c22 k22
  have b22 := F22.binds (ps := ["moments"]) fun _ _ _ _ _ _ us hl => match us, hl with | [_], _ => rfl
  have F23 := fun_mk (st := (top 32)) l23 c23 k23
  have b23 := F23.binds (ps := ["ends", "desks"]) fun _ _ _ _ _ _ us hl => match us, hl with | [_, _], _ => rfl
  have F24 := fun_mk (st := (top 34)) l24 c24 k24
  have b24 := F24.binds (ps := ["hours"]) fun _ _ _ _ _ _ us hl => match us, hl with | [_], _ => rfl
  have F25 := fun_mk (st := (top 35)) l25 c25 k25
  have b25 := F25.binds (ps := ["lengths", "many"]) fun _ _ _ _ _ _ us hl => match us, hl with | [_, _], _ => rfl
  have F26 := fun_mk (st := (top 36)) l26 c26 k26
  have b26 := F26.binds (ps := ["arrival", "begin_ahead", "ends_ahead", "desks", "hours", "n"]) fun _ _ _ _ _ _ us hl => match us, hl with | [_, _, _, _, _, _], _ => rfl
  have F27 := fun_mk (st := (top 37)) l27 c27 k27
  have b27 := F27.binds (ps := ["arrivals", "lengths", "desks", "hours"]) fun _ _ _ _ _ _ us hl => match us, hl with | [_, _, _, _], _ => rfl
  have F28 := fun_mk (st := (top 39)) l28 c28 k28
  have b28 := F28.binds (ps := ["_law_script", "_law_k"]) fun _ _ _ _ _ _ us hl => match us, hl with | [_, _], _ => rfl
  have F29 := fun_mk (st := (top 40)) l29 c29 k29
  have b29 := F29.binds (ps := ["_law_source", "_law_top"]) fun _ _ _ _ _ _ us hl => match us, hl with | [_, _], _ => rfl
  have F30 := fun_mk (st := (top 41)) l30 c30 k30
  have b30 := F30.binds (ps := ["_law_source", "_law_things"]) fun _ _ _ _ _ _ us hl => match us, hl with | [_, _], _ => rfl
  have F31 := fun_mk (st := (top 42)) l31 c31 k31
  have b31 := F31.binds (ps := ["_law_script"]) fun _ _ _ _ _ _ us hl => match us, hl with | [_], _ => rfl
  have F32 := fun_mk (st := (top 44)) l32 c32 k32
  have b32 := F32.binds (ps := ["_law_source"]) fun _ _ _ _ _ _ us hl => match us, hl with | [_], _ => rfl
  have F33 := fun_mk (st := (top 45)) l33 c33 k33
  have b33 := F33.binds (ps := ["_law_spans_here", "_law_n", "_law_t"]) fun _ _ _ _ _ _ us hl => match us, hl with | [_, _, _], _ => rfl
  have F34 := fun_mk (st := (top 46)) l34 c34 k34
  have b34 := F34.binds (ps := ["_law_moment_here"]) fun _ _ _ _ _ _ us hl => match us, hl with | [_], _ => rfl
  have F35 := fun_mk (st := (top 47)) l35 c35 k35
  have b35 := F35.binds (ps := ["_law_source", "_law_most"]) fun _ _ _ _ _ _ us hl => match us, hl with | [_, _], _ => rfl
  have F36 := fun_mk (st := (top 48)) l36 c36 k36
  have b36 := F36.binds (ps := ["_law_some"]) fun _ _ _ _ _ _ us hl => match us, hl with | [_], _ => rfl
  have F37 := fun_mk (st := (top 49)) l37 c37 k37
  have b37 := F37.binds (ps := ["_law_moment_here", "_law_minutes"]) fun _ _ _ _ _ _ us hl => match us, hl with | [_, _], _ => rfl
  have F38 := fun_mk (st := (top 50)) l38 c38 k38
  have b38 := F38.binds (ps := ["_law_some"]) fun _ _ _ _ _ _ us hl => match us, hl with | [_], _ => rfl
  have F39 := fun_mk (st := (top 51)) l39 c39 k39
  have b39 := F39.binds (ps := ["_law_some"]) fun _ _ _ _ _ _ us hl => match us, hl with | [_], _ => rfl
  have F40 := fun_mk (st := (top 52)) l40 c40 k40
  have b40 := F40.binds (ps := ["_law_arrivals_here", "_law_lengths_here", "_law_desks_here", "_law_spans_here"]) fun _ _ _ _ _ _ us hl => match us, hl with | [_, _, _, _], _ => rfl
  have F41 := fun_mk (st := (top 53)) l41 c41 k41
  have b41 := F41.binds (ps := ["_law_arrivals_here", "_law_lengths_here", "_law_desks_here", "_law_spans_here"]) fun _ _ _ _ _ _ us hl => match us, hl with | [_, _, _, _], _ => rfl
  have F42 := fun_mk (st := (top 54)) l42 c42 k42
  have b42 := F42.binds (ps := ["_law_source"]) fun _ _ _ _ _ _ us hl => match us, hl with | [_], _ => rfl
  have F43 := fun_mk (st := (top 55)) l43 c43 k43
  have b43 := F43.binds (ps := ["_law_script"]) fun _ _ _ _ _ _ us hl => match us, hl with | [_], _ => rfl
  have FH0 := fun_mk (st := (top 43)) lH0 cH0 kH0
  have bH0 := FH0.binds (ps := ["_law_call"]) fun _ _ _ _ _ _ us hl => match us, hl with | [_], _ => rfl
  have H__law_heard : HrdF K mg "_law_heard" (top 43) "_law_call" fH0 cdH0 := ⟨PySem.W.mg_of X G aH0, kH0, ⟨_, _, _, _, _, _, _, _, _, lH0, bH0⟩, cH0⟩
  have z_isinstance := PySem.W.mg_none_of X G Z_isinstance
  have z_int := PySem.W.mg_none_of X G Z_int
  have z_bool := PySem.W.mg_none_of X G Z_bool
  have z_list := PySem.W.mg_none_of X G Z_list
  have z_tuple := PySem.W.mg_none_of X G Z_tuple
  have z_all := PySem.W.mg_none_of X G Z_all
  have z_sorted := PySem.W.mg_none_of X G Z_sorted
  have z_len := PySem.W.mg_none_of X G Z_len
  have z_range := PySem.W.mg_none_of X G Z_range
  have z_max := PySem.W.mg_none_of X G Z_max
  have z_any := PySem.W.mg_none_of X G Z_any
  have z_zip := PySem.W.mg_none_of X G Z_zip
  have z_min := PySem.W.mg_none_of X G Z_min
  have z_repr := PySem.W.mg_none_of X G Z_repr
  have c_LAST_MINUTE := PySem.W.mg_of X G N_LAST_MINUTE
  have c_MOST_DESKS := PySem.W.mg_of X G N_MOST_DESKS
  have cl : ∀ C, C ∈ (["Hours"] : List Str) → Cls K (clsAt K C) := fun C hC => by
    simp only [List.mem_cons, List.not_mem_nil, or_false] at hC
    (subst hC; exact ⟨pgC_Hours, hdC_Hours, poC_Hours, saC_Hours⟩)
  have hC : ∀ C, C ∈ (["Hours"] : List Str) → IsC K C := fun C hC => by
    have cl0 := cl C hC
    simp only [List.mem_cons, List.not_mem_nil, or_false] at hC
    (subst hC; exact ⟨cl0, haC_Hours, oc_hn, oc_ht, hmC_Hours⟩)
  have hF : ClsF K ["Hours"] ["_spans"] := ⟨cl, fun C hC f hf => by
    simp only [List.mem_cons, List.not_mem_nil, or_false] at hC hf
    rcases hf with hf <;> first | (subst hC; subst hf; exact n_spansC_Hours)⟩
  have K_int : IsK K ["Hours"] .int (.type "int") := ⟨rfl, rfl, rfl, rfl, rfl, rfl, fun C hC => by
    simp only [List.mem_cons, List.not_mem_nil, or_false] at hC
    first | (subst hC; exact kit_ct rfl S_int_Hours)⟩
  have K_bool : IsK K ["Hours"] .bool (.type "bool") := ⟨rfl, rfl, rfl, rfl, rfl, rfl, fun C hC => by
    simp only [List.mem_cons, List.not_mem_nil, or_false] at hC
    first | (subst hC; exact kit_ct rfl S_bool_Hours)⟩
  have K_list : IsK K ["Hours"] .list (.type "list") := ⟨rfl, rfl, rfl, rfl, rfl, rfl, fun C hC => by
    simp only [List.mem_cons, List.not_mem_nil, or_false] at hC
    first | (subst hC; exact kit_ct rfl S_list_Hours)⟩
  have K_tuple : IsK K ["Hours"] .tuple (.type "tuple") := ⟨rfl, rfl, rfl, rfl, rfl, rfl, fun C hC => by
    simp only [List.mem_cons, List.not_mem_nil, or_false] at hC
    first | (subst hC; exact kit_ct rfl S_tuple_Hours)⟩
  have K_Hours : IsK K ["Hours"] (.cls "Hours") (.ref (clsAt K "Hours")) := ⟨kit_tc iC_Hours tC_Hours rfl, kit_tc iC_Hours tC_Hours rfl, kit_tc iC_Hours tC_Hours rfl, kit_tc iC_Hours tC_Hours rfl, kit_tc iC_Hours tC_Hours rfl, kit_tc iC_Hours tC_Hours rfl, fun C hC => by
    simp only [List.mem_cons, List.not_mem_nil, or_false] at hC
    first | (subst hC; exact kit_self)⟩
  refine ⟨PySem.W.fnOf "law" "law" (defArgs (top 55)) (defBody (top 55)) (defScope (top 55)) .none kV43 dc43 pm43 an43 cd43 ct43, [(cc42, P42)], spLaw K, ?_, ?_, ?_, fun s v => .of_eq rfl, ?_, fun base _ _ TB => ?_⟩
  · intro p hp; simp only [List.mem_cons, List.not_mem_nil, or_false] at hp
    rcases hp with rfl <;> first | exact th42.2
  · intro p hp; simp only [List.mem_cons, List.not_mem_nil, or_false] at hp
    rcases hp with rfl <;> first | exact n42
  · intro p hp; simp only [List.mem_cons, List.not_mem_nil, or_false] at hp
    rcases hp with rfl <;> first | exact th42.1
  · intro H a ns hl hT hS
    refine ⟨a, ns, fun P q m => ?_, rfl, hS, hl, fun _ => rfl⟩
    have m : (P, q) ∈ ([(P42, (PySem.Str.ofString "_law_refuses" ++ PySem.Str.ofString ".<locals>." ++ "<lambda>"))] : List (Addr × Str)) := m
    simp only [List.mem_cons, List.not_mem_nil, or_false] at m
    rcases m with m <;> (cases m; first | exact tabS_empty (hT (cc42, P42) (by simp)))
  have m42 : (P42, (PySem.Str.ofString "_law_refuses" ++ PySem.Str.ofString ".<locals>." ++ "<lambda>")) ∈ I1.T := by show _ ∈ ([(P42, (PySem.Str.ofString "_law_refuses" ++ PySem.Str.ofString ".<locals>." ++ "<lambda>"))] : List (Addr × Str)); simp
  have o42 : ∀ p ∈ I1.T, p.1 = P42 → p.2 = (PySem.Str.ofString "_law_refuses" ++ PySem.Str.ofString ".<locals>." ++ "<lambda>") := fun p hp hq => by
    have hp : p ∈ ([(P42, (PySem.Str.ofString "_law_refuses" ++ PySem.Str.ofString ".<locals>." ++ "<lambda>"))] : List (Addr × Str)) := hp
    simp only [List.mem_cons, List.not_mem_nil, or_false] at hp
    rcases hp with rfl <;> first  | rfl
  have LT42 : LamT base mg (PySem.W.fnOf "_law_refuses" "_law_refuses" (defArgs (top 54)) (defBody (top 54)) (defScope (top 54)) .none kV42 dc42 pm42 an42 (.ref cc42) ct42) (PySem.Str.ofString "_law_refuses" ++ PySem.Str.ofString ".<locals>.") cc42 P42 := ⟨rfl, TB (cc42, P42) (by simp), m42, o42⟩
  have FF_is_whole : @FnF I1 ⟨False⟩ l.prog w K mg base 1 "is_whole" f_is_whole := by letI I2 : GdW := ⟨False⟩; exact fnF_mk (by decide) (PySem.W.mg_of X G a0) k0 (ok_is_whole (P := l.prog) (w := w) (mg := mg) (base := base) F0 (z_isinstance := z_isinstance) (z_int := z_int) (z_bool := z_bool) (hC := hC) (K_int := K_int) (K_bool := K_bool)) b0
  have FU_is_whole : @FnF I1 ⟨True⟩ l.prog w K mg base 1 "is_whole" f_is_whole := by letI I2 : GdW := ⟨True⟩; exact fnF_mk (by decide) (PySem.W.mg_of X G a0) k0 (ok_is_whole (P := l.prog) (w := w) (mg := mg) (base := base) F0 (z_isinstance := z_isinstance) (z_int := z_int) (z_bool := z_bool) (hC := hC) (K_int := K_int) (K_bool := K_bool)) b0
  have FF_is_between : @FnF I1 ⟨False⟩ l.prog w K mg base 2 "is_between" f_is_between := by letI I2 : GdW := ⟨False⟩; exact fnF_mk (by decide) (PySem.W.mg_of X G a1) k1 (ok_is_between (P := l.prog) (w := w) (mg := mg) (base := base) F1 (F_is_whole := FF_is_whole)) b1
  have FU_is_between : @FnF I1 ⟨True⟩ l.prog w K mg base 2 "is_between" f_is_between := by letI I2 : GdW := ⟨True⟩; exact fnF_mk (by decide) (PySem.W.mg_of X G a1) k1 (ok_is_between (P := l.prog) (w := w) (mg := mg) (base := base) F1 (F_is_whole := FU_is_whole)) b1
  have FF_is_count : @FnF I1 ⟨False⟩ l.prog w K mg base 2 "is_count" f_is_count := by letI I2 : GdW := ⟨False⟩; exact fnF_mk (by decide) (PySem.W.mg_of X G a2) k2 (ok_is_count (P := l.prog) (w := w) (mg := mg) (base := base) F2 (F_is_whole := FF_is_whole)) b2
  have FU_is_count : @FnF I1 ⟨True⟩ l.prog w K mg base 2 "is_count" f_is_count := by letI I2 : GdW := ⟨True⟩; exact fnF_mk (by decide) (PySem.W.mg_of X G a2) k2 (ok_is_count (P := l.prog) (w := w) (mg := mg) (base := base) F2 (F_is_whole := FU_is_whole)) b2
  have FF_is_told_minute : @FnF I1 ⟨False⟩ l.prog w K mg base 3 "is_told_minute" f_is_told_minute := by letI I2 : GdW := ⟨False⟩; exact fnF_mk (by decide) (PySem.W.mg_of X G a3) k3 (ok_is_told_minute (P := l.prog) (w := w) (mg := mg) (base := base) F3 (F_is_between := FF_is_between) (c_LAST_MINUTE := c_LAST_MINUTE)) b3
  have FU_is_told_minute : @FnF I1 ⟨True⟩ l.prog w K mg base 3 "is_told_minute" f_is_told_minute := by letI I2 : GdW := ⟨True⟩; exact fnF_mk (by decide) (PySem.W.mg_of X G a3) k3 (ok_is_told_minute (P := l.prog) (w := w) (mg := mg) (base := base) F3 (F_is_between := FU_is_between) (c_LAST_MINUTE := c_LAST_MINUTE)) b3
  have FF_is_count_or_never : @FnF I1 ⟨False⟩ l.prog w K mg base 3 "is_count_or_never" f_is_count_or_never := by letI I2 : GdW := ⟨False⟩; exact fnF_mk (by decide) (PySem.W.mg_of X G a4) k4 (ok_is_count_or_never (P := l.prog) (w := w) (mg := mg) (base := base) F4 (F_is_count := FF_is_count)) b4
  have FU_is_count_or_never : @FnF I1 ⟨True⟩ l.prog w K mg base 3 "is_count_or_never" f_is_count_or_never := by letI I2 : GdW := ⟨True⟩; exact fnF_mk (by decide) (PySem.W.mg_of X G a4) k4 (ok_is_count_or_never (P := l.prog) (w := w) (mg := mg) (base := base) F4 (F_is_count := FU_is_count)) b4
  have FF_is_listed : @FnF I1 ⟨False⟩ l.prog w K mg base 1 "is_listed" f_is_listed := by letI I2 : GdW := ⟨False⟩; exact fnF_mk (by decide) (PySem.W.mg_of X G a5) k5 (ok_is_listed (P := l.prog) (w := w) (mg := mg) (base := base) F5 (z_isinstance := z_isinstance) (z_list := z_list) (z_tuple := z_tuple) (hC := hC) (K_list := K_list) (K_tuple := K_tuple)) b5
  have FU_is_listed : @FnF I1 ⟨True⟩ l.prog w K mg base 1 "is_listed" f_is_listed := by letI I2 : GdW := ⟨True⟩; exact fnF_mk (by decide) (PySem.W.mg_of X G a5) k5 (ok_is_listed (P := l.prog) (w := w) (mg := mg) (base := base) F5 (z_isinstance := z_isinstance) (z_list := z_list) (z_tuple := z_tuple) (hC := hC) (K_list := K_list) (K_tuple := K_tuple)) b5
  have FF_need_count : @FnF I1 ⟨False⟩ l.prog w K mg base 3 "need_count" f_need_count := by letI I2 : GdW := ⟨False⟩; exact fnF_mk (by decide) (PySem.W.mg_of X G a6) k6 (ok_need_count (P := l.prog) (w := w) (mg := mg) (base := base) F6 (F_is_count := FF_is_count) (T_BadNumber := T_BadNumber)) b6
  have FU_need_count : @FnF I1 ⟨True⟩ l.prog w K mg base 3 "need_count" f_need_count := by letI I2 : GdW := ⟨True⟩; exact fnF_mk (by decide) (PySem.W.mg_of X G a6) k6 (ok_need_count (P := l.prog) (w := w) (mg := mg) (base := base) F6 (F_is_count := FU_is_count) (T_BadNumber := T_BadNumber)) b6
  have FF_need_minute : @FnF I1 ⟨False⟩ l.prog w K mg base 4 "need_minute" f_need_minute := by letI I2 : GdW := ⟨False⟩; exact fnF_mk (by decide) (PySem.W.mg_of X G a7) k7 (ok_need_minute (P := l.prog) (w := w) (mg := mg) (base := base) F7 (F_is_count_or_never := FF_is_count_or_never) (T_BadNumber := T_BadNumber)) b7
  have FU_need_minute : @FnF I1 ⟨True⟩ l.prog w K mg base 4 "need_minute" f_need_minute := by letI I2 : GdW := ⟨True⟩; exact fnF_mk (by decide) (PySem.W.mg_of X G a7) k7 (ok_need_minute (P := l.prog) (w := w) (mg := mg) (base := base) F7 (F_is_count_or_never := FU_is_count_or_never) (T_BadNumber := T_BadNumber)) b7
  have FF_need_minutes : @FnF I1 ⟨False⟩ l.prog w K mg base 4 "need_minutes" f_need_minutes := by letI I2 : GdW := ⟨False⟩; exact fnF_mk (by decide) (PySem.W.mg_of X G a8) k8 (ok_need_minutes (P := l.prog) (w := w) (mg := mg) (base := base) F8 (F_is_listed := FF_is_listed) (F_is_count_or_never := FF_is_count_or_never) (T_BadPart := T_BadPart) (z_all := z_all)) b8
  have FU_need_minutes : @FnF I1 ⟨True⟩ l.prog w K mg base 4 "need_minutes" f_need_minutes := by letI I2 : GdW := ⟨True⟩; exact fnF_mk (by decide) (PySem.W.mg_of X G a8) k8 (ok_need_minutes (P := l.prog) (w := w) (mg := mg) (base := base) F8 (F_is_listed := FU_is_listed) (F_is_count_or_never := FU_is_count_or_never) (T_BadPart := T_BadPart) (z_all := z_all)) b8
  have FF_need_desks : @FnF I1 ⟨False⟩ l.prog w K mg base 3 "need_desks" f_need_desks := by letI I2 : GdW := ⟨False⟩; exact fnF_mk (by decide) (PySem.W.mg_of X G a9) k9 (ok_need_desks (P := l.prog) (w := w) (mg := mg) (base := base) F9 (F_is_between := FF_is_between) (T_BadNumber := T_BadNumber) (c_MOST_DESKS := c_MOST_DESKS)) b9
  have FU_need_desks : @FnF I1 ⟨True⟩ l.prog w K mg base 3 "need_desks" f_need_desks := by letI I2 : GdW := ⟨True⟩; exact fnF_mk (by decide) (PySem.W.mg_of X G a9) k9 (ok_need_desks (P := l.prog) (w := w) (mg := mg) (base := base) F9 (F_is_between := FU_is_between) (T_BadNumber := T_BadNumber) (c_MOST_DESKS := c_MOST_DESKS)) b9
  have FF_minutes_more : @FnF I1 ⟨False⟩ l.prog w K mg base 1 "minutes_more" f_minutes_more := by letI I2 : GdW := ⟨False⟩; exact fnF_mk (by decide) (PySem.W.mg_of X G a10) k10 (ok_minutes_more (P := l.prog) (w := w) (mg := mg) (base := base) F10 ) b10
  have FU_minutes_more : @FnF I1 ⟨True⟩ l.prog w K mg base 1 "minutes_more" f_minutes_more := by letI I2 : GdW := ⟨True⟩; exact fnF_mk (by decide) (PySem.W.mg_of X G a10) k10 (ok_minutes_more (P := l.prog) (w := w) (mg := mg) (base := base) F10 ) b10
  have FF_nth_least : @FnF I1 ⟨False⟩ l.prog w K mg base 1 "nth_least" f_nth_least := by letI I2 : GdW := ⟨False⟩; exact fnF_mk (by decide) (PySem.W.mg_of X G a11) k11 (ok_nth_least (P := l.prog) (w := w) (mg := mg) (base := base) F11 (z_sorted := z_sorted) (z_int := z_int) (z_len := z_len)) b11
  have FU_nth_least : @FnF I1 ⟨True⟩ l.prog w K mg base 1 "nth_least" f_nth_least := by letI I2 : GdW := ⟨True⟩; exact fnF_mk (by decide) (PySem.W.mg_of X G a11) k11 (ok_nth_least (P := l.prog) (w := w) (mg := mg) (base := base) F11 (z_sorted := z_sorted) (z_int := z_int) (z_len := z_len)) b11
  have FF_is_span : @FnF I1 ⟨False⟩ l.prog w K mg base 4 "is_span" f_is_span := by letI I2 : GdW := ⟨False⟩; exact fnF_mk (by decide) (PySem.W.mg_of X G a12) k12 (ok_is_span (P := l.prog) (w := w) (mg := mg) (base := base) F12 (F_is_told_minute := FF_is_told_minute) (z_isinstance := z_isinstance) (z_tuple := z_tuple) (z_len := z_len) (hC := hC) (K_tuple := K_tuple)) b12
  have FU_is_span : @FnF I1 ⟨True⟩ l.prog w K mg base 4 "is_span" f_is_span := by letI I2 : GdW := ⟨True⟩; exact fnF_mk (by decide) (PySem.W.mg_of X G a12) k12 (ok_is_span (P := l.prog) (w := w) (mg := mg) (base := base) F12 (F_is_told_minute := FU_is_told_minute) (z_isinstance := z_isinstance) (z_tuple := z_tuple) (z_len := z_len) (hC := hC) (K_tuple := K_tuple)) b12
  have FF_are_spans : @FnF I1 ⟨False⟩ l.prog w K mg base 5 "are_spans" f_are_spans := by letI I2 : GdW := ⟨False⟩; exact fnF_mk (by decide) (PySem.W.mg_of X G a13) k13 (ok_are_spans (P := l.prog) (w := w) (mg := mg) (base := base) F13 (F_is_span := FF_is_span) (z_len := z_len) (z_all := z_all) (z_range := z_range)) b13
  have FU_are_spans : @FnF I1 ⟨True⟩ l.prog w K mg base 5 "are_spans" f_are_spans := by letI I2 : GdW := ⟨True⟩; exact fnF_mk (by decide) (PySem.W.mg_of X G a13) k13 (ok_are_spans (P := l.prog) (w := w) (mg := mg) (base := base) F13 (F_is_span := FU_is_span) (z_len := z_len) (z_all := z_all) (z_range := z_range)) b13
  have FF_gate_of : @FnF I1 ⟨False⟩ l.prog w K mg base 1 "gate_of" f_gate_of := by letI I2 : GdW := ⟨False⟩; exact fnF_mk (by decide) (PySem.W.mg_of X G a14) k14 (ok_gate_of (P := l.prog) (w := w) (mg := mg) (base := base) F14 (z_max := z_max) (z_int := z_int)) b14
  have FU_gate_of : @FnF I1 ⟨True⟩ l.prog w K mg base 1 "gate_of" f_gate_of := by letI I2 : GdW := ⟨True⟩; exact fnF_mk (by decide) (PySem.W.mg_of X G a14) k14 (ok_gate_of (P := l.prog) (w := w) (mg := mg) (base := base) F14 (z_max := z_max) (z_int := z_int)) b14
  have FU_are_within : @FnF I1 ⟨True⟩ l.prog w K mg base 1 "are_within" f_are_within := by letI I2 : GdW := ⟨True⟩; exact fnF_mk (by decide) (PySem.W.mg_of X G a15) k15 (ok_are_within (P := l.prog) (w := w) (mg := mg) (base := base) F15 (z_all := z_all) (z_any := z_any)) b15
  have CF_Hours_0 : @MkF I1 ⟨False⟩ l.prog w K mg base 6 "Hours" k_Hours_0 := by
    letI I2 : GdW := ⟨False⟩
    obtain ⟨dz, dzv, db⟩ := F16.binds1 (ps := ["self", "spans"]) 1 0 (by simp) rfl fun T kV doc pm an cdv ct us its hu hi => match us, hu, its, hi with | [_], _, [_], _ => ⟨_, rfl, rfl⟩
    exact mkF_dfl (dvs := [V.non]) [D.non] (by decide) g_Hours ⟨mkC_Hours, a16, i16, kcC_Hours⟩ (ok_Hours___init__ (P := l.prog) (w := w) (mg := mg) (base := base) F16 (cl _ (by simp)) (fun f hf => hF.no "Hours" (by simp) f (by revert f; decide +kernel)) init_Hours (F_is_listed := FF_is_listed) (F_are_spans := FF_are_spans) (T_BadPart := T_BadPart) (z_tuple := z_tuple)) db dzv (fun H M => RepL.cons rep_non (RepL.nil)) rfl (fun ds => rfl)
  have CF_Hours : @MkF I1 ⟨False⟩ l.prog w K mg base 6 "Hours" k_Hours := by letI I2 : GdW := ⟨False⟩; exact mkF_mk (by decide) g_Hours ⟨mkC_Hours, a16, i16, kcC_Hours⟩ (ok_Hours___init__ (P := l.prog) (w := w) (mg := mg) (base := base) F16 (cl _ (by simp)) (fun f hf => hF.no "Hours" (by simp) f (by revert f; decide +kernel)) init_Hours (F_is_listed := FF_is_listed) (F_are_spans := FF_are_spans) (T_BadPart := T_BadPart) (z_tuple := z_tuple)) b16
  have CU_Hours_0 : @MkF I1 ⟨True⟩ l.prog w K mg base 6 "Hours" k_Hours_0 := by
    letI I2 : GdW := ⟨True⟩
    obtain ⟨dz, dzv, db⟩ := F16.binds1 (ps := ["self", "spans"]) 1 0 (by simp) rfl fun T kV doc pm an cdv ct us its hu hi => match us, hu, its, hi with | [_], _, [_], _ => ⟨_, rfl, rfl⟩
    exact mkF_dfl (dvs := [V.non]) [D.non] (by decide) g_Hours ⟨mkC_Hours, a16, i16, kcC_Hours⟩ (ok_Hours___init__ (P := l.prog) (w := w) (mg := mg) (base := base) F16 (cl _ (by simp)) (fun f hf => hF.no "Hours" (by simp) f (by revert f; decide +kernel)) init_Hours (F_is_listed := FU_is_listed) (F_are_spans := FU_are_spans) (T_BadPart := T_BadPart) (z_tuple := z_tuple)) db dzv (fun H M => RepL.cons rep_non (RepL.nil)) rfl (fun ds => rfl)
  have CU_Hours : @MkF I1 ⟨True⟩ l.prog w K mg base 6 "Hours" k_Hours := by letI I2 : GdW := ⟨True⟩; exact mkF_mk (by decide) g_Hours ⟨mkC_Hours, a16, i16, kcC_Hours⟩ (ok_Hours___init__ (P := l.prog) (w := w) (mg := mg) (base := base) F16 (cl _ (by simp)) (fun f hf => hF.no "Hours" (by simp) f (by revert f; decide +kernel)) init_Hours (F_is_listed := FU_is_listed) (F_are_spans := FU_are_spans) (T_BadPart := T_BadPart) (z_tuple := z_tuple)) b16
  have MU___eq__ : @MtF I1 ⟨True⟩ l.prog w K mg base 1 m_Hours___eq__ := by letI I2 : GdW := ⟨True⟩; exact mtF_mk (cl _ (by simp)) ⟨a17, i17, k17⟩ (ok_Hours___eq__ (P := l.prog) (w := w) (mg := mg) (base := base) F17 (z_isinstance := z_isinstance) (hC := hC) (g_Hours := g_Hours) (K_Hours := K_Hours) (hF := hF)) b17
  have MU___le__ : @MtF I1 ⟨True⟩ l.prog w K mg base 2 m_Hours___le__ := by letI I2 : GdW := ⟨True⟩; exact mtF_mk (cl _ (by simp)) ⟨a18, i18, k18⟩ (ok_Hours___le__ (P := l.prog) (w := w) (mg := mg) (base := base) F18 (F_are_within := FU_are_within) (z_isinstance := z_isinstance) (hC := hC) (g_Hours := g_Hours) (K_Hours := K_Hours) (hF := hF)) b18
  have MU_spans : @MtF I1 ⟨True⟩ l.prog w K mg base 1 m_Hours_spans := by letI I2 : GdW := ⟨True⟩; exact mtF_mk (cl _ (by simp)) ⟨a19, i19, k19⟩ (ok_Hours_spans (P := l.prog) (w := w) (mg := mg) (base := base) F19 (z_list := z_list) (hF := hF)) b19
  have MF_gate : @MtF I1 ⟨False⟩ l.prog w K mg base 5 m_Hours_gate := by letI I2 : GdW := ⟨False⟩; exact mtF_mk (cl _ (by simp)) ⟨a20, i20, k20⟩ (ok_Hours_gate (P := l.prog) (w := w) (mg := mg) (base := base) F20 (F_need_count := FF_need_count) (F_need_minute := FF_need_minute) (F_gate_of := FF_gate_of) (hF := hF)) b20
  have MU_gate : @MtF I1 ⟨True⟩ l.prog w K mg base 5 m_Hours_gate := by letI I2 : GdW := ⟨True⟩; exact mtF_mk (cl _ (by simp)) ⟨a20, i20, k20⟩ (ok_Hours_gate (P := l.prog) (w := w) (mg := mg) (base := base) F20 (F_need_count := FU_need_count) (F_need_minute := FU_need_minute) (F_gate_of := FU_gate_of) (hF := hF)) b20
  have FF_later_by : @FnF I1 ⟨False⟩ l.prog w K mg base 5 "later_by" f_later_by := by letI I2 : GdW := ⟨False⟩; exact fnF_mk (by decide) (PySem.W.mg_of X G a21) k21 (ok_later_by (P := l.prog) (w := w) (mg := mg) (base := base) F21 (F_need_minute := FF_need_minute) (F_need_count := FF_need_count) (F_minutes_more := FF_minutes_more)) b21
  have FU_later_by : @FnF I1 ⟨True⟩ l.prog w K mg base 5 "later_by" f_later_by := by letI I2 : GdW := ⟨True⟩; exact fnF_mk (by decide) (PySem.W.mg_of X G a21) k21 (ok_later_by (P := l.prog) (w := w) (mg := mg) (base := base) F21 (F_need_minute := FU_need_minute) (F_need_count := FU_need_count) (F_minutes_more := FU_minutes_more)) b21
  have FF_greatest : @FnF I1 ⟨False⟩ l.prog w K mg base 5 "greatest" f_greatest := by letI I2 : GdW := ⟨False⟩; exact fnF_mk (by decide) (PySem.W.mg_of X G a22) k22 (ok_greatest (P := l.prog) (w := w) (mg := mg) (base := base) F22 (F_need_minutes := FF_need_minutes) (F_nth_least := FF_nth_least) (z_len := z_len)) b22
  have FU_greatest : @FnF I1 ⟨True⟩ l.prog w K mg base 5 "greatest" f_greatest := by letI I2 : GdW := ⟨True⟩; exact fnF_mk (by decide) (PySem.W.mg_of X G a22) k22 (ok_greatest (P := l.prog) (w := w) (mg := mg) (base := base) F22 (F_need_minutes := FU_need_minutes) (F_nth_least := FU_nth_least) (z_len := z_len)) b22
  have FF_desk_free : @FnF I1 ⟨False⟩ l.prog w K mg base 5 "desk_free" f_desk_free := by letI I2 : GdW := ⟨False⟩; exact fnF_mk (by decide) (PySem.W.mg_of X G a23) k23 (ok_desk_free (P := l.prog) (w := w) (mg := mg) (base := base) F23 (F_need_minutes := FF_need_minutes) (F_need_desks := FF_need_desks) (F_nth_least := FF_nth_least) (z_len := z_len)) b23
  have FU_desk_free : @FnF I1 ⟨True⟩ l.prog w K mg base 5 "desk_free" f_desk_free := by letI I2 : GdW := ⟨True⟩; exact fnF_mk (by decide) (PySem.W.mg_of X G a23) k23 (ok_desk_free (P := l.prog) (w := w) (mg := mg) (base := base) F23 (F_need_minutes := FU_need_minutes) (F_need_desks := FU_need_desks) (F_nth_least := FU_nth_least) (z_len := z_len)) b23
  have FF_need_hours : @FnF I1 ⟨False⟩ l.prog w K mg base 1 "need_hours" f_need_hours := by letI I2 : GdW := ⟨False⟩; exact fnF_mk (by decide) (PySem.W.mg_of X G a24) k24 (ok_need_hours (P := l.prog) (w := w) (mg := mg) (base := base) F24 (T_BadPart := T_BadPart) (z_isinstance := z_isinstance) (hC := hC) (g_Hours := g_Hours) (K_Hours := K_Hours)) b24
  have FU_need_hours : @FnF I1 ⟨True⟩ l.prog w K mg base 1 "need_hours" f_need_hours := by letI I2 : GdW := ⟨True⟩; exact fnF_mk (by decide) (PySem.W.mg_of X G a24) k24 (ok_need_hours (P := l.prog) (w := w) (mg := mg) (base := base) F24 (T_BadPart := T_BadPart) (z_isinstance := z_isinstance) (hC := hC) (g_Hours := g_Hours) (K_Hours := K_Hours)) b24
  have FF_need_lengths : @FnF I1 ⟨False⟩ l.prog w K mg base 3 "need_lengths" f_need_lengths := by letI I2 : GdW := ⟨False⟩; exact fnF_mk (by decide) (PySem.W.mg_of X G a25) k25 (ok_need_lengths (P := l.prog) (w := w) (mg := mg) (base := base) F25 (F_is_listed := FF_is_listed) (F_is_count := FF_is_count) (T_BadPart := T_BadPart) (z_len := z_len) (z_all := z_all)) b25
  have FU_need_lengths : @FnF I1 ⟨True⟩ l.prog w K mg base 3 "need_lengths" f_need_lengths := by letI I2 : GdW := ⟨True⟩; exact fnF_mk (by decide) (PySem.W.mg_of X G a25) k25 (ok_need_lengths (P := l.prog) (w := w) (mg := mg) (base := base) F25 (F_is_listed := FU_is_listed) (F_is_count := FU_is_count) (T_BadPart := T_BadPart) (z_len := z_len) (z_all := z_all)) b25
  have FF_counter_begin : @FnF I1 ⟨False⟩ l.prog w K mg base 6 "counter_begin" f_counter_begin := by letI I2 : GdW := ⟨False⟩; exact fnF_mk (by decide) (PySem.W.mg_of X G a26) k26 (ok_counter_begin (P := l.prog) (w := w) (mg := mg) (base := base) F26 (F_need_minute := FF_need_minute) (F_need_minutes := FF_need_minutes) (F_need_desks := FF_need_desks) (F_need_hours := FF_need_hours) (F_need_count := FF_need_count) (F_greatest := FF_greatest) (F_desk_free := FF_desk_free) (M_gate := MF_gate)) b26
  have FU_counter_begin : @FnF I1 ⟨True⟩ l.prog w K mg base 6 "counter_begin" f_counter_begin := by letI I2 : GdW := ⟨True⟩; exact fnF_mk (by decide) (PySem.W.mg_of X G a26) k26 (ok_counter_begin (P := l.prog) (w := w) (mg := mg) (base := base) F26 (F_need_minute := FU_need_minute) (F_need_minutes := FU_need_minutes) (F_need_desks := FU_need_desks) (F_need_hours := FU_need_hours) (F_need_count := FU_need_count) (F_greatest := FU_greatest) (F_desk_free := FU_desk_free) (M_gate := MU_gate)) b26
  have FF_counter_row : @FnF I1 ⟨False⟩ l.prog w K mg base 7 "counter_row" f_counter_row := by letI I2 : GdW := ⟨False⟩; exact fnF_mk (by decide) (PySem.W.mg_of X G a27) k27 (ok_counter_row (P := l.prog) (w := w) (mg := mg) (base := base) F27 (F_need_minutes := FF_need_minutes) (F_need_lengths := FF_need_lengths) (F_need_desks := FF_need_desks) (F_need_hours := FF_need_hours) (F_counter_begin := FF_counter_begin) (F_later_by := FF_later_by) (z_len := z_len) (z_zip := z_zip)) b27
  have FU_counter_row : @FnF I1 ⟨True⟩ l.prog w K mg base 7 "counter_row" f_counter_row := by letI I2 : GdW := ⟨True⟩; exact fnF_mk (by decide) (PySem.W.mg_of X G a27) k27 (ok_counter_row (P := l.prog) (w := w) (mg := mg) (base := base) F27 (F_need_minutes := FU_need_minutes) (F_need_lengths := FU_need_lengths) (F_need_desks := FU_need_desks) (F_need_hours := FU_need_hours) (F_counter_begin := FU_counter_begin) (F_later_by := FU_later_by) (z_len := z_len) (z_zip := z_zip)) b27
  have FU__law_pool : @FrF I1 ⟨True⟩ l.prog w K mg base 1 "_law_pool" f__law_pool := by letI I2 : GdW := ⟨True⟩; exact frF_mk (by decide) (PySem.W.mg_of X G a28) k28 (ok__law_pool (P := l.prog) (w := w) (mg := mg) (base := base) F28 (z_len := z_len) (z_max := z_max) (z_int := z_int)) b28
  have FU__law_take : @FnF I1 ⟨True⟩ l.prog w K mg base 1 "_law_take" f__law_take := by letI I2 : GdW := ⟨True⟩; exact fnF_mk (by decide) (PySem.W.mg_of X G a29) k29 (ok__law_take (P := l.prog) (w := w) (mg := mg) (base := base) F29 (z_int := z_int)) b29
  have FU__law_one : @FnF I1 ⟨True⟩ l.prog w K mg base 2 "_law_one" f__law_one := by letI I2 : GdW := ⟨True⟩; exact fnF_mk (by decide) (PySem.W.mg_of X G a30) k30 (ok__law_one (P := l.prog) (w := w) (mg := mg) (base := base) F30 (F__law_take := FU__law_take) (z_len := z_len)) b30
  have FU__law_rounds : @FnF I1 ⟨True⟩ l.prog w K mg base 1 "_law_rounds" f__law_rounds := by letI I2 : GdW := ⟨True⟩; exact fnF_mk (by decide) (PySem.W.mg_of X G a31) k31 (ok__law_rounds (P := l.prog) (w := w) (mg := mg) (base := base) F31 (z_list := z_list) (z_range := z_range) (z_max := z_max) (z_min := z_min) (z_len := z_len)) b31
  have FU__law_spans : @FnF I1 ⟨True⟩ l.prog w K mg base 3 "_law_spans" f__law_spans := by letI I2 : GdW := ⟨True⟩; exact fnF_mk (by decide) (PySem.W.mg_of X G a32) k32 (ok__law_spans (P := l.prog) (w := w) (mg := mg) (base := base) F32 (F__law_take := FU__law_take) (F__law_one := FU__law_one) (z_range := z_range)) b32
  have FU__law_gate : @FnF I1 ⟨True⟩ l.prog w K mg base 1 "_law_gate" f__law_gate := by letI I2 : GdW := ⟨True⟩; exact fnF_mk (by decide) (PySem.W.mg_of X G a33) k33 (ok__law_gate (P := l.prog) (w := w) (mg := mg) (base := base) F33 (z_range := z_range)) b33
  have FU__law_rank : @FnF I1 ⟨True⟩ l.prog w K mg base 1 "_law_rank" f__law_rank := by letI I2 : GdW := ⟨True⟩; exact fnF_mk (by decide) (PySem.W.mg_of X G a34) k34 (ok__law_rank (P := l.prog) (w := w) (mg := mg) (base := base) F34 (z_int := z_int)) b34
  have FU__law_moment : @FnF I1 ⟨True⟩ l.prog w K mg base 2 "_law_moment" f__law_moment := by letI I2 : GdW := ⟨True⟩; exact fnF_mk (by decide) (PySem.W.mg_of X G a35) k35 (ok__law_moment (P := l.prog) (w := w) (mg := mg) (base := base) F35 (F__law_take := FU__law_take)) b35
  have FU__law_sorted : @FnF I1 ⟨True⟩ l.prog w K mg base 2 "_law_sorted" f__law_sorted := by letI I2 : GdW := ⟨True⟩; exact fnF_mk (by decide) (PySem.W.mg_of X G a36) k36 (ok__law_sorted (P := l.prog) (w := w) (mg := mg) (base := base) F36 (F__law_rank := FU__law_rank) (z_sorted := z_sorted) (z_int := z_int)) b36
  have FU__law_more : @FnF I1 ⟨True⟩ l.prog w K mg base 1 "_law_more" f__law_more := by letI I2 : GdW := ⟨True⟩; exact fnF_mk (by decide) (PySem.W.mg_of X G a37) k37 (ok__law_more (P := l.prog) (w := w) (mg := mg) (base := base) F37 ) b37
  have FU__law_max : @FnF I1 ⟨True⟩ l.prog w K mg base 3 "_law_max" f__law_max := by letI I2 : GdW := ⟨True⟩; exact fnF_mk (by decide) (PySem.W.mg_of X G a38) k38 (ok__law_max (P := l.prog) (w := w) (mg := mg) (base := base) F38 (F__law_sorted := FU__law_sorted) (z_list := z_list)) b38
  have FU__law_min : @FnF I1 ⟨True⟩ l.prog w K mg base 3 "_law_min" f__law_min := by letI I2 : GdW := ⟨True⟩; exact fnF_mk (by decide) (PySem.W.mg_of X G a39) k39 (ok__law_min (P := l.prog) (w := w) (mg := mg) (base := base) F39 (F__law_sorted := FU__law_sorted) (z_list := z_list)) b39
  have FU__law_counter : @FnF I1 ⟨True⟩ l.prog w K mg base 4 "_law_counter" f__law_counter := by letI I2 : GdW := ⟨True⟩; exact fnF_mk (by decide) (PySem.W.mg_of X G a40) k40 (ok__law_counter (P := l.prog) (w := w) (mg := mg) (base := base) F40 (F__law_gate := FU__law_gate) (F__law_max := FU__law_max) (F__law_min := FU__law_min) (F__law_more := FU__law_more) (F__law_sorted := FU__law_sorted) (z_zip := z_zip)) b40
  have FU__law_row_right : @FnF I1 ⟨True⟩ l.prog w K mg base 8 "_law_row_right" f__law_row_right := by letI I2 : GdW := ⟨True⟩; exact fnF_mk (by decide) (PySem.W.mg_of X G a41) k41 (ok__law_row_right (P := l.prog) (w := w) (mg := mg) (base := base) F41 (F__law_counter := FU__law_counter) (F_counter_row := FU_counter_row) (F_counter_begin := FU_counter_begin) (C_Hours := CU_Hours) (z_tuple := z_tuple) (z_range := z_range) (z_len := z_len)) b41
  have FU__law_refuses : @FnF I1 ⟨True⟩ l.prog w K mg base 10 "_law_refuses" f__law_refuses := by letI I2 : GdW := ⟨True⟩; exact fnF_mk (by decide) (PySem.W.mg_of X G a42) k42 (ok__law_refuses (P := l.prog) (w := w) (mg := mg) (base := base) F42 (F__law_one := FU__law_one) (L_counter_begin := FF_counter_begin) (L_counter_row := FF_counter_row) (LC_Hours_0 := CF_Hours_0) (hgd := trivial) (T_BadPart := T_BadPart) (T_BadNumber := T_BadNumber) (T_BadIndex := T_BadIndex) (EF__law_heard := EF__law_heard) (H__law_heard := H__law_heard) (LT := LT42) (z_repr := z_repr)) b42
  letI I2 : GdW := ⟨True⟩
  exact (ok_law (P := l.prog) (w := w) (mg := mg) (base := base) F43 (F__law_rounds := FU__law_rounds) (F__law_take := FU__law_take) (F__law_moment := FU__law_moment) (F__law_one := FU__law_one) (F__law_spans := FU__law_spans) (F__law_row_right := FU__law_row_right) (F__law_refuses := FU__law_refuses) (F_counter_row := FU_counter_row) (F__law_pool := FU__law_pool) (C_Hours_0 := CU_Hours_0) (z_range := z_range)).imp fun vs H Q E h => law_imp (fun ns hn => math ns hn) h
end Mp
open PySem PySem.W PyProof.Rows
theorem PySem.Challenge.cw_risingday_k13_counters_desk_by_desk_holds : PySem.Challenge.rw_risingday_k13_counters_desk_by_desk.Holds := by
  w_on; o_law; k_head; (case hw => w_witness2)
  k_fill
  letI I2 : Mp.GdW := ⟨True⟩
  refine Mp.walkG (l := PySem.Challenge.rw_risingday_k13_counters_desk_by_desk) (n := 63) (k := 11) (x := "_law_script") rfl (by rw [sizeLine_eq]; decide) rfl ⟨⟨rfl, by decide, by decide⟩, fun _ => rfl⟩ (fun w h Y => by first | exact PySem.W.kIn_of Y | exact PySem.W.km_in_of Y) ?F
  case F =>
    intro w mg mb fa h s0 Gr Y KX G hmg
    refine' Mp.all_mk KX G hmg (Mp.tab_at (x := "_law_refuses") Gr KX ?r42 (Mp.tabIn_of ?a42 ?l42 rfl ?xc42 ?xp42)) ?aC_Hours ?pgC_Hours ?hdC_Hours ?poC_Hours ?saC_Hours ?mkC_Hours ?kcC_Hours ?haC_Hours ?hmC_Hours ?n_spansC_Hours ?oc_hn ?oc_ht ?aC_BadPart ?xC_BadPart ?saC_BadPart ?gaC_BadPart ?ggC_BadPart ?nbC_BadPart ?iC_BadPart ?tiC_BadPart ?lC_BadPart ?cC_BadPart ?kC_BadPart ?eC_BadPart ?tyC_BadPart ?hdC_BadPart ?icC_BadPart ?aC_BadNumber ?xC_BadNumber ?saC_BadNumber ?gaC_BadNumber ?ggC_BadNumber ?nbC_BadNumber ?iC_BadNumber ?tiC_BadNumber ?lC_BadNumber ?cC_BadNumber ?kC_BadNumber ?eC_BadNumber ?tyC_BadNumber ?hdC_BadNumber ?icC_BadNumber ?aC_BadIndex ?xC_BadIndex ?saC_BadIndex ?gaC_BadIndex ?ggC_BadIndex ?nbC_BadIndex ?iC_BadIndex ?tiC_BadIndex ?lC_BadIndex ?cC_BadIndex ?kC_BadIndex ?eC_BadIndex ?tyC_BadIndex ?hdC_BadIndex ?icC_BadIndex ?su_BadPart_BadPart ?su_BadPart_BadNumber ?su_BadPart_BadIndex ?su_BadNumber_BadPart ?su_BadNumber_BadNumber ?su_BadNumber_BadIndex ?su_BadIndex_BadPart ?su_BadIndex_BadNumber ?su_BadIndex_BadIndex ?Z_isinstance ?Z_int ?Z_bool ?Z_list ?Z_tuple ?Z_all ?Z_sorted ?Z_len ?Z_range ?Z_max ?Z_any ?Z_zip ?Z_min ?Z_repr ?N_LAST_MINUTE ?N_MOST_DESKS ?S_int_Hours ?S_bool_Hours ?S_list_Hours ?S_tuple_Hours ?iC_Hours ?tC_Hours ?a0 ?l0 ?c0 ?k0 ?a1 ?l1 ?c1 ?k1 ?a2 ?l2 ?c2 ?k2 ?a3 ?l3 ?c3 ?k3 ?a4 ?l4 ?c4 ?k4 ?a5 ?l5 ?c5 ?k5 ?a6 ?l6 ?c6 ?k6 ?a7 ?l7 ?c7 ?k7 ?a8 ?l8 ?c8 ?k8 ?a9 ?l9 ?c9 ?k9 ?a10 ?l10 ?c10 ?k10 ?a11 ?l11 ?c11 ?k11 ?a12 ?l12 ?c12 ?k12 ?a13 ?l13 ?c13 ?k13 ?a14 ?l14 ?c14 ?k14 ?a15 ?l15 ?c15 ?k15 ?a16 ?i16 ?l16 ?c16 ?k16 ?t16_ ?a17 ?i17 ?l17 ?c17 ?k17 ?a18 ?i18 ?l18 ?c18 ?k18 ?a19 ?i19 ?l19 ?c19 ?k19 ?a20 ?i20 ?l20 ?c20 ?k20 ?a21 ?l21 ?c21 ?k21 ?a22 ?l22 ?c22 ?k22 ?a23 ?l23 ?c23 ?k23 ?a24 ?l24 ?c24 ?k24 ?a25 ?l25 ?c25 ?k25 ?a26 ?l26 ?c26 ?k26 ?a27 ?l27 ?c27 ?k27 ?a28 ?l28 ?c28 ?k28 ?a29 ?l29 ?c29 ?k29 ?a30 ?l30 ?c30 ?k30 ?a31 ?l31 ?c31 ?k31 ?a32 ?l32 ?c32 ?k32 ?a33 ?l33 ?c33 ?k33 ?a34 ?l34 ?c34 ?k34 ?a35 ?l35 ?c35 ?k35 ?a36 ?l36 ?c36 ?k36 ?a37 ?l37 ?c37 ?k37 ?a38 ?l38 ?c38 ?k38 ?a39 ?l39 ?c39 ?k39 ?a40 ?l40 ?c40 ?k40 ?a41 ?l41 ?c41 ?k41 ?a42 ?l42 ?c42 ?k42 ?xc42 ?xp42 ?n42 ?a43 ?l43 ?c43 ?k43 ?aH0 ?lH0 ?cH0 ?kH0 Mp.math
    (case aC_Hours => k_is)
    (case pgC_Hours => k_is)
    (case hdC_Hours => k_is)
    (case poC_Hours => k_is)
    (case saC_Hours => k_is)
    (case mkC_Hours => k_is)
    (case kcC_Hours => k_is)
    (case haC_Hours => k_is)
    (case hmC_Hours => k_is)
    (case n_spansC_Hours => k_is)
    (case oc_hn => k_is)
    (case oc_ht => k_is)
    (case aC_BadPart => k_is)
    (case xC_BadPart => k_is)
    (case saC_BadPart => k_is)
    (case gaC_BadPart => k_is)
    (case ggC_BadPart => k_is)
    (case nbC_BadPart => k_is)
    (case iC_BadPart => k_is)
    (case tiC_BadPart => k_is)
    (case lC_BadPart => k_is)
    (case cC_BadPart => k_is)
    (case kC_BadPart => k_is)
    (case eC_BadPart => k_is)
    (case tyC_BadPart => k_is)
    (case hdC_BadPart => k_is)
    (case icC_BadPart => k_is)
    (case aC_BadNumber => k_is)
    (case xC_BadNumber => k_is)
    (case saC_BadNumber => k_is)
    (case gaC_BadNumber => k_is)
    (case ggC_BadNumber => k_is)
    (case nbC_BadNumber => k_is)
    (case iC_BadNumber => k_is)
    (case tiC_BadNumber => k_is)
    (case lC_BadNumber => k_is)
    (case cC_BadNumber => k_is)
    (case kC_BadNumber => k_is)
    (case eC_BadNumber => k_is)
    (case tyC_BadNumber => k_is)
    (case hdC_BadNumber => k_is)
    (case icC_BadNumber => k_is)
    (case aC_BadIndex => k_is)
    (case xC_BadIndex => k_is)
    (case saC_BadIndex => k_is)
    (case gaC_BadIndex => k_is)
    (case ggC_BadIndex => k_is)
    (case nbC_BadIndex => k_is)
    (case iC_BadIndex => k_is)
    (case tiC_BadIndex => k_is)
    (case lC_BadIndex => k_is)
    (case cC_BadIndex => k_is)
    (case kC_BadIndex => k_is)
    (case eC_BadIndex => k_is)
    (case tyC_BadIndex => k_is)
    (case hdC_BadIndex => k_is)
    (case icC_BadIndex => k_is)
    (case su_BadPart_BadPart => k_is)
    (case su_BadPart_BadNumber => k_is)
    (case su_BadPart_BadIndex => k_is)
    (case su_BadNumber_BadPart => k_is)
    (case su_BadNumber_BadNumber => k_is)
    (case su_BadNumber_BadIndex => k_is)
    (case su_BadIndex_BadPart => k_is)
    (case su_BadIndex_BadNumber => k_is)
    (case su_BadIndex_BadIndex => k_is)
    (case Z_isinstance => k_is)
    (case Z_int => k_is)
    (case Z_bool => k_is)
    (case Z_list => k_is)
    (case Z_tuple => k_is)
    (case Z_all => k_is)
    (case Z_sorted => k_is)
    (case Z_len => k_is)
    (case Z_range => k_is)
    (case Z_max => k_is)
    (case Z_any => k_is)
    (case Z_zip => k_is)
    (case Z_min => k_is)
    (case Z_repr => k_is)
    (case N_LAST_MINUTE => k_is)
    (case N_MOST_DESKS => k_is)
    (case S_int_Hours => k_is)
    (case S_bool_Hours => k_is)
    (case S_list_Hours => k_is)
    (case S_tuple_Hours => k_is)
    (case iC_Hours => k_is)
    (case tC_Hours => k_is)
    (case a0 => k_is)
    (case l0 => k_is)
    (case c0 => k_is)
    (case k0 => k_is)
    (case a1 => k_is)
    (case l1 => k_is)
    (case c1 => k_is)
    (case k1 => k_is)
    (case a2 => k_is)
    (case l2 => k_is)
    (case c2 => k_is)
    (case k2 => k_is)
    (case a3 => k_is)
    (case l3 => k_is)
    (case c3 => k_is)
    (case k3 => k_is)
    (case a4 => k_is)
    (case l4 => k_is)
    (case c4 => k_is)
    (case k4 => k_is)
    (case a5 => k_is)
    (case l5 => k_is)
    (case c5 => k_is)
    (case k5 => k_is)
    (case a6 => k_is)
    (case l6 => k_is)
    (case c6 => k_is)
    (case k6 => k_is)
    (case a7 => k_is)
    (case l7 => k_is)
    (case c7 => k_is)
    (case k7 => k_is)
    (case a8 => k_is)
    (case l8 => k_is)
    (case c8 => k_is)
    (case k8 => k_is)
    (case a9 => k_is)
    (case l9 => k_is)
    (case c9 => k_is)
    (case k9 => k_is)
    (case a10 => k_is)
    (case l10 => k_is)
    (case c10 => k_is)
    (case k10 => k_is)
    (case a11 => k_is)
    (case l11 => k_is)
    (case c11 => k_is)
    (case k11 => k_is)
    (case a12 => k_is)
    (case l12 => k_is)
    (case c12 => k_is)
    (case k12 => k_is)
    (case a13 => k_is)
    (case l13 => k_is)
    (case c13 => k_is)
    (case k13 => k_is)
    (case a14 => k_is)
    (case l14 => k_is)
    (case c14 => k_is)
    (case k14 => k_is)
    (case a15 => k_is)
    (case l15 => k_is)
    (case c15 => k_is)
    (case k15 => k_is)
    (case a16 => k_is)
    (case i16 => k_is)
    (case l16 => k_is)
    (case c16 => k_is)
    (case k16 => k_is)
    (case t16_ => k_is)
    (case a17 => k_is)
    (case i17 => k_is)
    (case l17 => k_is)
    (case c17 => k_is)
    (case k17 => k_is)
    (case a18 => k_is)
    (case i18 => k_is)
    (case l18 => k_is)
    (case c18 => k_is)
    (case k18 => k_is)
    (case a19 => k_is)
    (case i19 => k_is)
    (case l19 => k_is)
    (case c19 => k_is)
    (case k19 => k_is)
    (case a20 => k_is)
    (case i20 => k_is)
    (case l20 => k_is)
    (case c20 => k_is)
    (case k20 => k_is)
    (case a21 => k_is)
    (case l21 => k_is)
    (case c21 => k_is)
    (case k21 => k_is)
    (case a22 => k_is)
    (case l22 => k_is)
    (case c22 => k_is)
    (case k22 => k_is)
    (case a23 => k_is)
    (case l23 => k_is)
    (case c23 => k_is)
    (case k23 => k_is)
    (case a24 => k_is)
    (case l24 => k_is)
    (case c24 => k_is)
    (case k24 => k_is)
    (case a25 => k_is)
    (case l25 => k_is)
    (case c25 => k_is)
    (case k25 => k_is)
    (case a26 => k_is)
    (case l26 => k_is)
    (case c26 => k_is)
    (case k26 => k_is)
    (case a27 => k_is)
    (case l27 => k_is)
    (case c27 => k_is)
    (case k27 => k_is)
    (case a28 => k_is)
    (case l28 => k_is)
    (case c28 => k_is)
    (case k28 => k_is)
    (case a29 => k_is)
    (case l29 => k_is)
    (case c29 => k_is)
    (case k29 => k_is)
    (case a30 => k_is)
    (case l30 => k_is)
    (case c30 => k_is)
    (case k30 => k_is)
    (case a31 => k_is)
    (case l31 => k_is)
    (case c31 => k_is)
    (case k31 => k_is)
    (case a32 => k_is)
    (case l32 => k_is)
    (case c32 => k_is)
    (case k32 => k_is)
    (case a33 => k_is)
    (case l33 => k_is)
    (case c33 => k_is)
    (case k33 => k_is)
    (case a34 => k_is)
    (case l34 => k_is)
    (case c34 => k_is)
    (case k34 => k_is)
    (case a35 => k_is)
    (case l35 => k_is)
    (case c35 => k_is)
    (case k35 => k_is)
    (case a36 => k_is)
    (case l36 => k_is)
    (case c36 => k_is)
    (case k36 => k_is)
    (case a37 => k_is)
    (case l37 => k_is)
    (case c37 => k_is)
    (case k37 => k_is)
    (case a38 => k_is)
    (case l38 => k_is)
    (case c38 => k_is)
    (case k38 => k_is)
    (case a39 => k_is)
    (case l39 => k_is)
    (case c39 => k_is)
    (case k39 => k_is)
    (case a40 => k_is)
    (case l40 => k_is)
    (case c40 => k_is)
    (case k40 => k_is)
    (case a41 => k_is)
    (case l41 => k_is)
    (case c41 => k_is)
    (case k41 => k_is)
    (case a42 => k_is)
    (case l42 => k_is)
    (case c42 => k_is)
    (case k42 => k_is)
    (case xc42 => k_is)
    (case xp42 => rfl)
    (case n42 => kernel_rfl)
    (case a43 => k_is)
    (case l43 => k_is)
    (case c43 => k_is)
    (case k43 => k_is)
    (case aH0 => k_is)
    (case lH0 => k_is)
    (case cH0 => k_is)
    (case kH0 => k_is)
    (case r42 => rfl)
