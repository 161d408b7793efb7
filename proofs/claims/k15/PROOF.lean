import PyProof.Rows.All
import Wide.All
import OpenK.AllK
import Wide.FinOn
import HandS.ForMost
import HandS.Style
import HandS.IsInst
import HandS.More
import HandS.Evl
import HandS.Zip
import HandS.Walk
import HandS.SetFor
import HandS.Defaults
import HandS.ForExc
import HandS.CallSlots
import HandS.SlotsOwn
import HandS.OwnIter
import HandS.IterNext
import HandS.ClsMeth
import HandS.Deep
import KE.KExcSuper
import HandS.ExcInit
import HandS.Nested
import HandS.ExcField
import HandS.ExcIs
import HandS.TryMany
import HandS.TryOnly
import HandS.ExcOwn
import HandS.WordsExc
import KE.KExcIs
import HandS.Exc
import HandS.Sort
import KE.KDictCopyH
import HandS.DictComp
import HandS.Comp
import KE.GoesComp2
import HandS.Star
import HandS.TupAny
import KE.KSuper
import PySem.Challenge.RW_coretower_k15_shapes
import KE.RegKSuper
set_option Elab.async false
set_option linter.all false
set_option maxRecDepth 100000
set_option maxHeartbeats 4000000
/-! ### small things over the layer: frames, loops, tests -/
namespace My
open PySem L2
section
variable {P : Program} {w : World} {K : PySem.W.Frag} {mg : Str → Option Value} {base : Heap}
/-- a def of the text, where it stands -/
structure Df (K : PySem.W.Frag) (mg : Str → Option Value) (x : Str) (st : Stmt) (ps : List Str) (f : Addr) (fd : FuncData) : Prop where
  F : Fun K x x st f fd
  g : mg x = some (.ref f)
  b : Binds K fd ps []
theorem cxK {CX : CXT} {N : List Str} {q : Str} {sc : Scope} {f : Addr} {cdv : Value} {A : Around} {outer : List Env} {s : Shared} {H : Hp} {E : XK} : (cxOf CX P w K mg base N q sc f cdv A outer s H E).K = K := rfl
theorem cxnK {CX : CXT} {N : List Str} {q : Str} {sc : Scope} {f : Addr} {cdv : Value} {A : Around} {outer : List Env} {s : Shared} {H : Hp} {E : XK} : (cxOf CX P w K mg base N q sc f cdv A outer s H E).nox.K = K := rfl
end
/-! ### frames -/
/-- what stood outside of S stands as it did -/
def Kp (S : List Addr) (H H' : Hp) : Prop := ∀ b o, b ∉ S → H b = some o → H' b = some o
theorem Kp.refl (S : List Addr) (H : Hp) : Kp S H H := fun _ _ _ h => h
theorem Kp.trans {S : List Addr} {H H1 H2 : Hp} (a : Kp S H H1) (b : Kp S H1 H2) : Kp S H H2 := fun c o hc h => b c o hc (a c o hc h)
theorem Kp.mono {S T : List Addr} {H H' : Hp} (a : Kp S H H') (h : ∀ x ∈ S, x ∈ T) : Kp T H H' := fun c o hc e => a c o (fun z => hc (h c z)) e
theorem Kp.of0 {T : List Addr} {H H' : Hp} (a : Kp [] H H') : Kp T H H' := a.mono fun x hx => nomatch hx
theorem Kp.new {S : List Addr} {H : Hp} {p : Addr} {o : HO} (h : H p = none) : Kp S H (upd H p o) := fun a u _ e => by
  rw [upd_ne (ne_of_none e h)]
  exact e
/-- a write to something that was not there at the beginning -/
theorem Kp.wr {S : List Addr} {H H' : Hp} {p : Addr} {o : HO} (a : Kp S H H') (h : H p = none) : Kp S H (upd H' p o) := fun b u hb e => by
  rw [upd_ne (ne_of_none e h)]
  exact a b u hb e
theorem Kp.put {S : List Addr} {H H' : Hp} {p : Addr} {o : HO} (a : Kp S H H') (h : p ∈ S) : Kp S H (upd H' p o) := fun b u hb e => by
  rw [upd_ne (fun z => hb (by rw [z]; exact h))]
  exact a b u hb e
theorem Kp.ls {S : List Addr} {K : PySem.W.Frag} {H H' : Hp} {a : Addr} {xs : List V} (k : Kp S H H') (ha : a ∉ S) (h : SqL K H a xs) : SqL K H' a xs := by
  rcases h with (h | ⟨o, h⟩) | h
  · exact .inl (.inl (k _ _ ha h))
  · exact .inl (.inr ⟨o, k _ _ ha h⟩)
  · exact .inr h
theorem Kp.tp {S : List Addr} {K : PySem.W.Frag} {H H' : Hp} {a : Addr} {xs : List V} (k : Kp S H H') (ha : a ∉ S) (h : SqT K H a xs) : SqT K H' a xs := by
  rcases h with (h | ⟨o, h⟩) | h
  · exact .inl (.inl (k _ _ ha h))
  · exact .inl (.inr ⟨o, k _ _ ha h⟩)
  · exact .inr h
theorem Kp.free {S : List Addr} {H H' : Hp} {p : Addr} (k : Kp S H H') (hp : H' p = none) (hs : ∀ a ∈ S, ∃ o, H' a = some o) : H p = none := by
  cases e : H p with
  | none => rfl
  | some o =>
    by_cases h : p ∈ S
    · obtain ⟨u, hu⟩ := hs p h
      rw [hp] at hu; cases hu
    · rw [k p o h e] at hp; cases hp
theorem Kp.free0 {H H' : Hp} {p : Addr} (k : Kp [] H H') (hp : H' p = none) : H p = none := k.free hp fun a h => nomatch h
theorem not1 {a b : Addr} (h : b ≠ a) : b ∉ [a] := fun z => h (List.mem_singleton.mp z)
theorem not0 {b : Addr} : b ∉ ([] : List Addr) := fun z => nomatch z
theorem sq_l {K : PySem.W.Frag} {H : Hp} {a : Addr} {xs : List V} (h : H a = some (.lst xs)) : SqL K H a xs := .inl (.inl h)
theorem sq_t {K : PySem.W.Frag} {H : Hp} {a : Addr} {xs : List V} (h : H a = some (.tup xs)) : SqT K H a xs := .inl (.inl h)
theorem small {n : Nat} (h : n ≤ 100000) : n ≤ sizeLine := Nat.le_trans h (by decide)
theorem smallL {n : Nat} (h : n ≤ 100000) : n < sizeLine := Nat.lt_of_le_of_lt h (by decide)
theorem ne_kind {H : Hp} {a b : Addr} {o u : HO} (h : H a = some o) (h' : H b = some u) (d : o ≠ u) : a ≠ b := ne_of h h' d
/-! ### subscripts -/
theorem atI_of {α : Type} {xs : List α} {i : Int} {v : α} (h0 : 0 ≤ i) (h : xs[i.toNat]? = some v) : atI xs i = some v := by
  have e := atI_nat h
  rwa [Int.toNat_of_nonneg h0] at e
theorem ixN_of {n : Nat} {i : Int} (h0 : 0 ≤ i) (h : i < n) : ixN n i = some i.toNat := by
  unfold ixN
  rw [if_pos h0, if_pos h]
theorem atI_ex {α : Type} {xs : List α} {i : Int} (h0 : 0 ≤ i) (h : i < xs.length) : ∃ v, v ∈ xs ∧ atI xs i = some v := by
  have hl : i.toNat < xs.length := by omega
  exact ⟨xs[i.toNat], List.getElem_mem hl, atI_of h0 (List.getElem?_eq_getElem hl)⟩
/-! ### isinstance -/
section
variable {K : PySem.W.Frag} {H : Hp} {Q : VK}
theorem isi_mk {x : V} {n m : String} {b : Bool} (h : TyOf K H x (.type n)) (k : kitB n m = some b) (q : Q (.bl b) H) : rIsi K [x, .ty m] H Q := ⟨x, _, _, _, b, rfl, .ty m, .base h, kit_ty k, q⟩
theorem isi_int_str {i : Int} (q : Q (.bl false) H) : rIsi K [.int i, .ty "str"] H Q := isi_mk (.int i) (by decide +kernel) q
theorem isi_str_str {i : Str} (q : Q (.bl true) H) : rIsi K [.str i, .ty "str"] H Q := isi_mk (.str i) (by decide +kernel) q
theorem isi_int_int {i : Int} (q : Q (.bl true) H) : rIsi K [.int i, .ty "int"] H Q := isi_mk (.int i) (by decide +kernel) q
theorem isi_int_bool {i : Int} (q : Q (.bl false) H) : rIsi K [.int i, .ty "bool"] H Q := isi_mk (.int i) (by decide +kernel) q
theorem isi_bl_bool {i : Bool} (q : Q (.bl true) H) : rIsi K [.bl i, .ty "bool"] H Q := isi_mk (.bl i) (by decide +kernel) q
end
theorem sc_ii {i j : Int} : scal (.int i) (.int j) = true := rfl
theorem sc_ss {i j : Str} : scal (.str i) (.str j) = true := rfl
theorem sc_bb {i j : Bool} : scal (.bl i) (.bl j) = true := rfl
theorem sc_ni {j : Int} : scal .non (.int j) = true := rfl
theorem sc_in {j : Int} : scal (.int j) .non = true := rfl
theorem sc_is {i : Int} {j : Str} : scal (.int i) (.str j) = true := rfl
theorem sc_si {i : Int} {j : Str} : scal (.str j) (.int i) = true := rfl
theorem sc_nn : scal .non .non = true := rfl
/-! ### loops -/
section
variable {K : PySem.W.Frag} {g : TG} {tb : TS} {D : Ends} {σ : St} {H : Hp}
theorem forL {a : Addr} {xs : List V} {i : Nat} (Pv : Nat → L2.St → Hp → Prop) (hσ : σ[i]? = some (some (.ref a))) (hS : SqL K H a xs) (h0 : Pv 0 σ H) (hl : ∀ j σ H, j ≤ xs.length → Pv j σ H → SqL K H a xs)
    (hs : ∀ j x σ H, xs[j]? = some x → Pv j σ H → g x σ H fun σ2 H2 => tb { D with nx := Pv (j + 1), ct := Pv (j + 1), bk := D.nx } σ2 H2) (hd : ∀ σ H, Pv xs.length σ H → D.nx σ H) : tFor (iList K (tVar i)) g tb D σ H :=
  ⟨_, hσ, a, rfl, ⟨xs, hS⟩, for_list Pv h0 hl hs hd⟩
theorem forT {a : Addr} {xs : List V} {i : Nat} (Pv : Nat → L2.St → Hp → Prop) (hσ : σ[i]? = some (some (.ref a))) (hS : SqT K H a xs) (h0 : Pv 0 σ H) (hl : ∀ j σ H, j ≤ xs.length → Pv j σ H → SqT K H a xs)
    (hs : ∀ j x σ H, xs[j]? = some x → Pv j σ H → g x σ H fun σ2 H2 => tb { D with nx := Pv (j + 1), ct := Pv (j + 1), bk := D.nx } σ2 H2) (hd : ∀ σ H, Pv xs.length σ H → D.nx σ H) : tFor (iTup K (tVar i)) g tb D σ H :=
  ⟨_, hσ, a, rfl, ⟨xs, hS⟩, for_tup Pv h0 hl hs hd⟩
/-- behind the reckoning of the bound: range(m) -/
theorem forR {ta : TA} {Qx : Hp → Int → Prop} (h : ta σ H fun vs H1 => ∃ m : Int, vs = [.int m] ∧ -(2 ^ 62) ≤ m ∧ m < 2 ^ 62 ∧ ∃ Pv : Nat → L2.St → Hp → Prop, Pv 0 σ H1 ∧
    (∀ j σ H, j < m.toNat → Pv j σ H → g (.int (0 + j)) σ H fun σ2 H2 => tb { D with nx := Pv (j + 1), ct := Pv (j + 1), bk := D.nx } σ2 H2) ∧ (∀ σ H, Pv m.toNat σ H → D.nx σ H))
    (mono : ∀ Q Q' : List V → Hp → Prop, (∀ vs H, Q vs H → Q' vs H) → ta σ H Q → ta σ H Q') : tFor (iRng1 ta) g tb D σ H := by
  refine mono _ _ ?_ h
  rintro vs H1 ⟨m, e, h1, h2, Pv, a, b, c⟩
  exact ⟨m, e, h1, h2, for_range Pv a b c⟩
end
/-! ### dicts -/
section
variable {κ : Type} [DecidableEq κ]
theorem keys_putK (kvs : List (κ × V)) (k : κ) (v : V) (h : (kvs.map (·.1)).Nodup) : ((putK kvs k v).map (·.1)).Nodup := by
  cases e : valV kvs k with
  | none => exact nd_putK v h e
  | some y =>
    have ha : (kvs.any fun kv => decide (kv.1 = k)) = true := by
      unfold valV at e
      cases q : kvs.find? fun kv => decide (kv.1 = k) with
      | none => rw [q] at e; cases e
      | some p => exact List.any_eq_true.mpr ⟨p, List.mem_of_find?_eq_some q, by simpa using List.find?_some q⟩
    unfold putK
    rw [if_pos ha, List.map_map]
    have e2 : ((fun kv : κ × V => kv.1) ∘ fun kv : κ × V => if kv.1 = k then (kv.1, v) else kv) = fun kv => kv.1 := by
      funext p
      show (if p.1 = k then (p.1, v) else p).1 = p.1
      split <;> rfl
    rw [e2]
    exact h
theorem mem_putK {kvs : List (κ × V)} {k : κ} {v : V} {p : κ × V} (h : p ∈ putK kvs k v) : p ∈ kvs ∨ p = (k, v) := by
  unfold putK at h
  split at h
  · obtain ⟨q, hq, e⟩ := List.mem_map.mp h
    split at e
    · rename_i hk
      exact .inr (by rw [← e, hk])
    · exact .inl (by rw [← e]; exact hq)
  · rcases List.mem_append.mp h with h | h
    · exact .inl h
    · exact .inr (List.mem_singleton.mp h)
theorem valV_mem {kvs : List (κ × V)} {k : κ} {v : V} (h : (kvs.map (·.1)).Nodup) (hm : (k, v) ∈ kvs) : valV kvs k = some v := by
  induction kvs with
  | nil => nomatch hm
  | cons p r ih =>
    rw [List.map_cons, List.nodup_cons] at h
    by_cases e : p.1 = k
    · rw [valV_pos e]
      rcases List.mem_cons.mp hm with z | z
      · rw [← z]
      · exact absurd (List.mem_map.mpr ⟨_, z, rfl⟩) (by rw [← e]; exact h.1)
    · rw [valV_neg e]
      rcases List.mem_cons.mp hm with z | z
      · exact absurd (by rw [← z]) e
      · exact ih h.2 z
end
end My

set_option Elab.async false
set_option linter.all false
set_option maxRecDepth 100000
set_option maxHeartbeats 4000000
namespace My
open PySem L2
/-! ### data that stands in tracked tuples and lists -/
mutual
inductive Dq (H : Hp) : V → PyData → Prop
  | non : Dq H .non .none
  | bl (b : Bool) : Dq H (.bl b) (.bool b)
  | int (i : Int) : Dq H (.int i) (.int i)
  | str (x : Str) : Dq H (.str x) (.str x)
  | lst {a : Addr} {xs : List V} {ds : List PyData} : H a = some (.lst xs) → DqAll H xs ds → Dq H (.ref a) (.list ds)
  | tup {a : Addr} {xs : List V} {ds : List PyData} : H a = some (.tup xs) → DqAll H xs ds → Dq H (.ref a) (.tuple ds)
inductive DqAll (H : Hp) : List V → List PyData → Prop
  | nil : DqAll H [] []
  | cons {v : V} {vs : List V} {d : PyData} {ds : List PyData} : Dq H v d → DqAll H vs ds → DqAll H (v :: vs) (d :: ds)
end
mutual
theorem Dq.kp {H H' : Hp} (k : Kp [] H H') : ∀ {d : PyData} {v : V}, Dq H v d → Dq H' v d
  | _, _, .non => .non
  | _, _, .bl b => .bl b
  | _, _, .int i => .int i
  | _, _, .str x => .str x
  | _, _, .lst e h => .lst (k _ _ not0 e) (DqAll.kp k h)
  | _, _, .tup e h => .tup (k _ _ not0 e) (DqAll.kp k h)
theorem DqAll.kp {H H' : Hp} (k : Kp [] H H') : ∀ {ds : List PyData} {vs : List V}, DqAll H vs ds → DqAll H' vs ds
  | _, _, .nil => .nil
  | _, _, .cons h t => .cons (Dq.kp k h) (DqAll.kp k t)
end
mutual
theorem Dq.dp {K : PySem.W.Frag} {H : Hp} : ∀ {d : PyData} {v : V}, Dq H v d → Dp K H v d
  | _, _, .non => .non
  | _, _, .bl b => .bl b
  | _, _, .int i => .int i
  | _, _, .str x => .str x
  | _, _, .lst e h => .lst (sq_l e) (DqAll.dp h)
  | _, _, .tup e h => .tup (sq_t e) (DqAll.dp h)
theorem DqAll.dp {K : PySem.W.Frag} {H : Hp} : ∀ {ds : List PyData} {vs : List V}, DqAll H vs ds → DpAll K H vs ds
  | _, _, .nil => .nil
  | _, _, .cons h t => .cons (Dq.dp h) (DqAll.dp t)
end
theorem DqAll.len {H : Hp} : ∀ {ds : List PyData} {vs : List V}, DqAll H vs ds → vs.length = ds.length
  | _, _, .nil => rfl
  | _, _, .cons h t => by rw [List.length_cons, List.length_cons, t.len]
theorem DqAll.get {H : Hp} : ∀ {ds : List PyData} {vs : List V}, DqAll H vs ds → ∀ {i : Nat} {v : V}, vs[i]? = some v → ∃ d, ds[i]? = some d ∧ Dq H v d
  | _, _, .nil, _, _, e => nomatch e
  | _, _, .cons h t, 0, _, e => by cases e; exact ⟨_, rfl, h⟩
  | _, _, .cons h t, i + 1, _, e => t.get (i := i) e
/-- its class -/
def tyD : PyData → String
  | .none => "NoneType"
  | .bool _ => "bool"
  | .int _ => "int"
  | .str _ => "str"
  | .list _ => "list"
  | .tuple _ => "tuple"
  | _ => "object"
theorem Dq.ty {K : PySem.W.Frag} {H : Hp} {v : V} {d : PyData} (h : Dq H v d) : TyOf K H v (.type (tyD d)) := by
  cases h with
  | non => exact .non
  | bl b => exact .bl b
  | int i => exact .int i
  | str x => exact .str x
  | lst e h => exact .lst e
  | tup e h => exact .tup e
def six (d : PyData) : Prop := match d with
  | .none | .bool _ | .int _ | .str _ | .list _ | .tuple _ => True
  | _ => False
theorem Dq.six {H : Hp} {v : V} {d : PyData} (h : Dq H v d) : six d := by
  cases h <;> exact True.intro
def isStrD : PyData → Bool | .str _ => true | _ => false
def isTupD : PyData → Bool | .tuple _ => true | _ => false
def isLstD : PyData → Bool | .list _ => true | _ => false
def isIntD : PyData → Bool | .int _ | .bool _ => true | _ => false
def isBoolD : PyData → Bool | .bool _ => true | _ => false
section
variable {K : PySem.W.Frag} {H : Hp} {Q : VK} {v : V} {d : PyData}
theorem isi_D (h : Dq H v d) {m : String} {b : Bool} (k : kitB (tyD d) m = some b) (q : Q (.bl b) H) : rIsi K [v, .ty m] H Q := isi_mk h.ty k q
theorem isi_Dstr (h : Dq H v d) (q : Q (.bl (isStrD d)) H) : rIsi K [v, .ty "str"] H Q := isi_D h (by cases h <;> simp only [tyD, isStrD, isTupD, isLstD, isIntD, isBoolD] <;> decide +kernel) q
theorem isi_Dtup (h : Dq H v d) (q : Q (.bl (isTupD d)) H) : rIsi K [v, .ty "tuple"] H Q := isi_D h (by cases h <;> simp only [tyD, isStrD, isTupD, isLstD, isIntD, isBoolD] <;> decide +kernel) q
theorem isi_Dlst (h : Dq H v d) (q : Q (.bl (isLstD d)) H) : rIsi K [v, .ty "list"] H Q := isi_D h (by cases h <;> simp only [tyD, isStrD, isTupD, isLstD, isIntD, isBoolD] <;> decide +kernel) q
theorem isi_Dint (h : Dq H v d) (q : Q (.bl (isIntD d)) H) : rIsi K [v, .ty "int"] H Q := isi_D h (by cases h <;> simp only [tyD, isStrD, isTupD, isLstD, isIntD, isBoolD] <;> decide +kernel) q
theorem isi_Dbool (h : Dq H v d) (q : Q (.bl (isBoolD d)) H) : rIsi K [v, .ty "bool"] H Q := isi_D h (by cases h <;> simp only [tyD, isStrD, isTupD, isLstD, isIntD, isBoolD] <;> decide +kernel) q
end
/-! ### xs.remove(text) -/
def eqs (z : Str) (v : Value) : Bool := match v with
  | .str y _ => y == z
  | _ => false
theorem str_beq' (w z : Str) : (w == z) = (w.cps.toList == z.cps.toList) := by
  rw [Bool.eq_iff_iff, beq_iff_eq, beq_iff_eq]
  constructor
  · rintro rfl; rfl
  · intro h
    obtain ⟨a⟩ := w
    obtain ⟨b⟩ := z
    obtain ⟨a⟩ := a
    obtain ⟨b⟩ := b
    have h' : a = b := h
    rw [h']
def rRemS : V → List V → Hp → VK → Prop := fun x xs H Q => ∃ (l : Addr) (zs : List Str) (z : Str) (j : Nat), x = .ref l ∧ xs = [.str z] ∧ H l = some (.lst (zs.map V.str)) ∧ zs[j]? = some z ∧ (∀ m : Nat, m < j → zs[m]? ≠ some z) ∧ Q .non (upd H l (.lst ((zs.eraseIdx j).map V.str)))
theorem vals_str : ∀ {zs : List Str} {us : List Value}, Vals (zs.map V.str) us → ∀ {i : Nat} {u : Value}, us[i]? = some u → ∃ y t, u = .str y t ∧ zs[i]? = some y
  | [], _, r, _, _, e => by cases r; cases e
  | z :: zs, us, r, i, u, e => by
    rw [List.map_cons] at r
    cases r with
    | cons r0 rt =>
      match i, e with
      | 0, e =>
        cases e
        obtain ⟨t, rfl⟩ := r0
        exact ⟨z, t, rfl, rfl⟩
      | i + 1, e => exact vals_str rt (i := i) e
theorem erase_mapS : ∀ (l : List Str) (j : Nat), (l.map V.str).eraseIdx j = (l.eraseIdx j).map V.str
  | [], j => by simp
  | _ :: _, 0 => by simp
  | _ :: r, j + 1 => by simp [erase_mapS r j]
theorem eqs_ok (w z : Str) (tw t : Tok) : MeetsSeq.EqGives (.str w tw) (.str z t) (eqs z (.str w tw)) := by
  have e : eqs z (.str w tw) = (w.cps.toList == z.cps.toList) := (str_beq' w z)
  rw [e]
  exact SeqRoads2.EqGives.str w z tw t
theorem mt_removeS {X : Cx} : MtM X "list.remove" rRemS := by
  intro pins s σ H x xs v us Q I rx rxs h
  obtain ⟨l, zs, z, j, rfl, rfl, hH, hj, hno, q⟩ := h
  cases rx
  obtain ⟨u, rfl, ru⟩ := rxs.one
  obtain ⟨t, rfl⟩ := ru
  obtain ⟨hz, its, n, r, hl, e⟩ := I.lstM hH
  rw [List.length_map] at hl hz
  have hjn : j < zs.length := (List.getElem?_eq_some_iff.mp hj).1
  have hjl : j < its.toArray.size := by rw [List.size_toArray]; omega
  have each : ∀ y, y ∈ its.toArray → MeetsSeq.EqGives y (.str z t) (eqs z y) := fun y hy => by
    obtain ⟨i, hi, e1⟩ := List.mem_iff_getElem.mp (show y ∈ its by simpa using hy)
    obtain ⟨w, tw, rfl, _⟩ := vals_str r (i := i) (by rw [List.getElem?_eq_getElem hi, e1])
    exact eqs_ok w z tw t
  have at_ : ∀ m (hm : m < its.toArray.size), ∃ t', its.toArray[m] = .str (zs[m]'(by rw [List.size_toArray] at hm; omega)) t' := fun m hm => by
    have hm' : m < its.length := by simpa using hm
    obtain ⟨w, tw, ew, ez⟩ := vals_str r (i := m) (List.getElem?_eq_getElem hm')
    have hmz : m < zs.length := by omega
    rw [List.getElem?_eq_getElem hmz] at ez
    exact ⟨tw, by rw [Option.some.inj ez]; simpa using ew⟩
  refine call_meets PySem.F.slot_list_remove ⟨_, e, rfl⟩ PySem.F.entry_list_remove (PySem.F.args_list_remove_2 _ _) (MeetsSeq.list_remove l its.toArray n (.str z t) (eqs z) each j hjl ?_ ?_ (by rw [List.size_toArray]; omega)) ⟨e, ?_⟩
  · obtain ⟨t', et⟩ := at_ j hjl
    rw [List.getElem?_eq_getElem hjn] at hj
    rw [et, Option.some.inj hj]
    exact beq_self_eq_true z
  · intro m hm hmj
    obtain ⟨t', et⟩ := at_ m hm
    rw [et]
    refine beq_eq_false_iff_ne.mpr fun e2 => hno m hmj ?_
    rw [← e2]
    exact List.getElem?_eq_getElem _
  · have rr := r.eraseIdx j
    rw [erase_mapS] at rr
    refine ⟨.non, _, I.lset (its' := its.eraseIdx j) (t' := s.toks) hH e ?_ rr ?_, rfl, q⟩
    · show its.toArray.eraseIdxIfInBounds j = (its.eraseIdx j).toArray
      rw [List.eraseIdxIfInBounds_toArray]
    · have := List.length_eraseIdx_le zs j
      rw [List.length_map]
      omega
/-! ### repr of data, nothing being shown -/
def rReprD (K : PySem.W.Frag) : List V → Hp → VK → Prop := fun xs H Q => ∃ (a : Addr) (d : PyData), xs = [.ref a] ∧ Dp K H (.ref a) d ∧ d.showable = true ∧ d.hasDict = false ∧ d.depth ≤ 60 ∧ d.shown.length ≤ sizeLine ∧ Q (.str d.shown) H
theorem call_reprD {X : Cx} (gd : X.A.guards = some [] ∧ X.A.units + 64 < cLine) : CallR X (.builtin "repr") (rReprD X.K) := by
  intro pins s σ H xs us Q I r h
  obtain ⟨a, d, rfl, hd, hs, hn, hp, hz, q⟩ := h
  obtain ⟨u, rfl, ru⟩ := vals1 r
  obtain ⟨as, rd⟩ := Dp.reads I d (.ref a) u hd ru
  cases (show u = Value.ref a from ru)
  refine repr_of_reads' rd hs (PyData.noDict_hsm hn) gd.1 (by omega) (fun _ _ e => e) (fun h' t tk hk => ⟨.str _, H, I.kept (t' := tk) hk, ⟨_, rfl⟩, q⟩) hz
/-! ### an own class made where what is raised is wished for at the slots -/
def tMakeS (C : Addr) (sp : Sp) (dvs : List V) (E : L2.St → XK) (t : TA) : TE := fun σ H Q => t σ H fun vs H1 => ∀ o d, H1 o = none → H1 d = none → d ≠ o → sp (.ref o :: (vs ++ dvs)) (upd (upd H1 d (.own o)) o (.ins C d [])) (fun v H2 => v = .non ∧ Q (.ref o) H2) (E σ)
section
variable {X : Cx} {CX : CXT} {k : Nat} {f C : Addr} {fd : FuncData} {ps : List Str} {sp : Sp} {dvs : List V} {ds : List Value} {E : L2.St → XK} {x : Str} {p pos : Pos} {e : Expr} {es : List Expr} {t : TA}
theorem pe_makeS (M : Mk X.K C f) (F : FnOk X.prog X.w X.K X.mg X.base CX k f fd ps sp) (hr : Room (k + 1) X.A) (hg : Gl X x) (hm : X.mg x = some (.ref C)) (hb : Binds X.K fd ps ds) (hd : Vals dvs ds) (hx : ∀ σ, PassesAt CX X σ (E σ)) (ha : PA X (e :: es) t)
    (hdb : (x == ("__debug__" : Str)) = false := by decide) (he : starEach (e :: es) X.env = (false, eval e X.env) :: starEach es X.env := by rfl) (hpl : (backTo pos (starEach es X.env)).any (·.1) = false := by rfl) :
    PE X (.Call (.Name x p) (e :: es) [] pos) (tMakeS C sp dvs E t) := by
  refine ⟨fun pins s σ H Q I h => wpAny_Call_Name_kw (ld_glob I hg hm ?_ hdb)⟩
  refine PySem.W.callWith_K (h₀ := X.base) I.ok.mod.kin M.kp (thn (ha.run pos pins s σ H _ I h) fun us s1 ⟨vs, H1, I1, r, q⟩ => ⟨I1.kIn, ?_⟩) he hpl
  have g0 : H1 (s1.heap.objs.size + 1) = none := I1.hok.fresh (Nat.le_succ _)
  have g1 : H1 s1.heap.objs.size = none := I1.hok.fresh (Nat.le_refl _)
  have todo := q _ _ g0 g1 (Nat.ne_of_lt (Nat.lt_succ_self _))
  have J := Inv.made (C := C) I1
  have rr : Vals (V.ref (s1.heap.objs.size + 1) :: (vs ++ dvs)) (Value.ref (s1.heap.objs.size + 1) :: (us ++ ds)) := .cons rfl (r.append hd)
  have many : (Value.ref (s1.heap.objs.size + 1) :: us ++ ds).length = ps.length := (rr.length.symm.trans (F.len _ _ _ _ todo))
  refine wpAny_call (make_map (f := f) I1.kIn M.makes M.init (beq_iff_eq.mp M.fn) (codeAny_mono (F.run _ X.stack _ _ ⟨_, []⟩ _ _ _ (E σ) (hr.make C us []) (J.env0.make C us []) (hb _ (Value.ref (s1.heap.objs.size + 1) :: us) J.kIn many) rr todo) fun
    | .error er, s2, z => hx σ pins _ _ er s2 J z
    | .ok (.ret u), s2, z => ?_
    | .ok .next, _, z => False.elim z
    | .ok .brk, _, z => False.elim z
    | .ok .cont, _, z => False.elim z))
  obtain ⟨v, H3, J3, rv, rfl, z3⟩ := J.after z
  exact ⟨rv, .ref (s1.heap.objs.size + 1), H3, J3, rfl, z3⟩
end
end My

set_option Elab.async false
set_option linter.all false
set_option maxRecDepth 100000
set_option maxHeartbeats 4000000
/-! ### operators, in, len, list of instances of an own class that define them -/
namespace My
open PySem PySem.Spec PyProof.Rows L2
section
variable {X : Cx} {CX : CXT} {pins : List (Addr × Obj)} {σ : L2.St} {H : Hp} {s : Shared} {C g a : Addr} {fd : FuncData} {ps : List Str} {sp : Sp} {E : XK} {k : Nat} {A1 : Around}
theorem inst_of {dx : Addr} {fs : List (Str × V)} (I : Inv X pins σ H s) (ha : H a = some (.ins C dx fs)) : ∃ ox od, PySem.W.InstAt s.heap a ox C (some od) := by
  obtain ⟨mA, J, _⟩ := ins_get I.hok ha
  obtain ⟨od, J', _⟩ := J.look
  exact ⟨_, od, J'⟩
theorem env_under (sb : Sub X k A1) (I : Inv X pins σ H s) : Env0 X.prog X.w X.K X.mg X.base A1 X.stack s H := by
  obtain ⟨f1, f2, f3, f4, f5, f6, f7, f8⟩ := I.env0
  exact ⟨(sb.fr).trans f1, f2, f3, f4, f5, f6, f7, f8⟩
/-- a def of the class runs somewhere below the body -/
theorem run_under {Q : VK} {us : List Value} {vs : List V} (F : FnOk X.prog X.w X.K X.mg X.base CX k g fd ps sp) (sb : Sub X k A1) (hb : Binds X.K fd ps []) (hx : Passes CX X E) (I : Inv X pins σ H s) (r : Vals vs us) (h : sp vs H Q E) :
    wpAny (model X.prog X.w) A1 (call (.ref g) us) (EP X pins σ Q) X.xe s := by
  have len := F.len _ _ _ _ h
  have bnd := hb s us I.kIn (by rw [List.append_nil, ← r.length]; exact len)
  rw [List.append_nil] at bnd
  refine wpAny_call (codeAny_mono (F.run A1 X.stack s H ⟨us, []⟩ us vs Q E sb.room (env_under sb I) bnd r h) ?_)
  rintro (e | fl) s' z
  · exact hx pins σ H s e s' I z
  · cases fl <;> first | exact I.after z | exact z.elim
/-- x op y, both instances of the class at C -/
def rBinO (C : Addr) (sp : Sp) (E : XK) : R2 := fun x y H Q => ∃ (a dx : Addr) (fs : List (Str × V)) (b dy : Addr) (gs : List (Str × V)), x = .ref a ∧ y = .ref b ∧ H a = some (.ins C dx fs) ∧ H b = some (.ins C dy gs) ∧ sp [.ref a, .ref b] H Q E
/-- what stands of an operator's def -/
structure BinC (K : PySem.W.Frag) (C g : Addr) (op : Operator) : Prop where
  one : PySem.W.selfFirst K C = true
  at_ : PySem.W.findIn K (.ref C) (PySem.dunder op.info.2) = some (some (.ref g))
  fn : PySem.W.isFn K (.ref g) = true
theorem sub_here (hr : Room k X.A) : Sub X k X.A := ⟨hr, rfl⟩
theorem op_binO {op : Operator} (c : BinC X.K C g op) (F : FnOk X.prog X.w X.K X.mg X.base CX k g fd ps sp) (hb : Binds X.K fd ps []) (hr : Room k X.A) (hx : Passes CX X E) : OpR X (binaryOp op) (rBinO C sp E) := by
  rintro pins s σ H x y v u Q I rx ry ⟨a, dx, fs, b, dy, gs, rfl, rfl, ha, hb', q⟩
  cases rx
  cases ry
  obtain ⟨ox, od, J⟩ := inst_of I ha
  obtain ⟨oy, ody, J'⟩ := inst_of I hb'
  obtain ⟨m, hF⟩ := I.fr
  refine PySem.W.binop_K hF I.ok.mod.kin J J'.type c.one c.at_ c.fn ?_
  refine thn (run_under (us := [.ref a, .ref b]) (vs := [.ref a, .ref b]) F (sub_here hr) hb hx I (.cons rfl (.cons rfl .nil)) q) ?_
  rintro w s' ⟨z, H', I', rz, qz⟩
  exact SlX.cmpback rz ⟨z, H', I', rz, qz⟩
/-- y in x, x an instance of the class at C: its __contains__ gives a bool -/
def rInO (C : Addr) (sp : Sp) (E : XK) (neg : Bool) : R2 := fun y x H Q => ∃ (a dx : Addr) (fs : List (Str × V)), x = .ref a ∧ H a = some (.ins C dx fs) ∧ sp [.ref a, y] H (fun v H' => ∃ b, v = .bl b ∧ Q (.bl (if neg then !b else b)) H') E
structure InC (K : PySem.W.Frag) (C g : Addr) : Prop where
  at_ : PySem.W.findIn K (.ref C) "__contains__" = some (some (.ref g))
  fn : PySem.W.isFn K (.ref g) = true
theorem op_inO (c : InC X.K C g) (F : FnOk X.prog X.w X.K X.mg X.base CX k g fd ps sp) (hb : Binds X.K fd ps []) (hr : Room k X.A) (hx : Passes CX X E) : OpR X (compareOp .In) (rInO C sp E false) := by
  rintro pins s σ H y x u v Q I ry rx ⟨a, dx, fs, rfl, ha, q⟩
  cases rx
  obtain ⟨ox, od, J⟩ := inst_of I ha
  obtain ⟨m, hF⟩ := I.fr
  refine PySem.W.in_K hF I.ok.mod.kin J c.at_ c.fn ?_
  refine thn (run_under (us := [.ref a, u]) (vs := [.ref a, y]) F (sub_here hr) hb hx I (.cons rfl (.cons ry .nil)) q) ?_
  rintro w s' ⟨z, H', I', rz, b, rfl, qz⟩
  cases rz
  exact wpAny_pure ⟨.bl b, H', I', rfl, qz⟩
theorem op_notInO (c : InC X.K C g) (F : FnOk X.prog X.w X.K X.mg X.base CX k g fd ps sp) (hb : Binds X.K fd ps []) (hr : Room k X.A) (hx : Passes CX X E) : OpR X (compareOp .NotIn) (rInO C sp E true) := by
  rintro pins s σ H y x u v Q I ry rx ⟨a, dx, fs, rfl, ha, q⟩
  cases rx
  obtain ⟨ox, od, J⟩ := inst_of I ha
  obtain ⟨m, hF⟩ := I.fr
  refine PySem.W.notIn_K hF I.ok.mod.kin J c.at_ c.fn ?_
  refine thn (run_under (us := [.ref a, u]) (vs := [.ref a, y]) F (sub_here hr) hb hx I (.cons rfl (.cons ry .nil)) q) ?_
  rintro w s' ⟨z, H', I', rz, b, rfl, qz⟩
  cases rz
  exact wpAny_pure ⟨.bl (!b), H', I', rfl, qz⟩
/-- len(x) -/
structure LenC (K : PySem.W.Frag) (C g : Addr) : Prop where
  at_ : PySem.W.findIn K (.ref C) "__len__" = some (some (.ref g))
  fn : PySem.W.isFn K (.ref g) = true
theorem len_under {R : Value → Shared → Prop} {Q1 : Nat → Hp → Prop} {dx : Addr} {fs : List (Str × V)} (c : LenC X.K C g) (F : FnOk X.prog X.w X.K X.mg X.base CX k g fd ps sp) (hb : Binds X.K fd ps []) (sb : Sub X (k + 1) A1) (hx : Passes CX X E) (I : Inv X pins σ H s)
    (ha : H a = some (.ins C dx fs)) (h : sp [.ref a] H (fun v H' => ∃ n : Nat, v = .int n ∧ n ≤ sizeLine ∧ Q1 n H') E) (hR : ∀ (n : Nat) H' s' t, n ≤ sizeLine → Inv X pins σ H' s' → Q1 n H' → R (.int n t) s') : wpAny (model X.prog X.w) A1 (call (.builtin "len") [.ref a]) R X.xe s := by
  obtain ⟨ox, od, J⟩ := inst_of I ha
  refine Calls.call_function_entry kind_len plain_len entry_len (args_len1 _) ?_
  unfold Builtin.«len»
  refine wpAny_bind (m := oneArg "len" _) (wpAny_pure ?_)
  refine wpAny_bind (PySem.W.special_fn I.kIn J c.at_ (beq_iff_eq.mp c.fn) ?_)
  refine thn (run_under (us := [.ref a]) (vs := [.ref a]) F sb.in1 hb hx I (.cons rfl .nil) h) ?_
  rintro w s' ⟨z, H', I', rz, n, rfl, hn, hq⟩
  obtain ⟨t, rfl⟩ := rz
  have h63 : ((n : Int)) < 2 ^ 63 := by
    rw [sizeLine_eq] at hn
    omega
  refine wpAny_bind (wpAny_holding (wpAny_pure ?_))
  refine wpAny_bind (wpAny_letGo ?_)
  refine wpAny_ite_false (decide_eq_false (show ¬ ((n : Int) < 0) by omega)) ?_
  refine wpAny_ite_false (decide_eq_false (show ¬ ((n : Int) ≥ 2 ^ 63) by omega)) ?_
  exact wpAny_bind (wpAny_mkInt (wpAny_pure ⟨_, rfl, hR n H' _ _ hn (I'.tok _) hq⟩))
def rLenO (C : Addr) (sp : Sp) (E : XK) : List V → Hp → VK → Prop := fun xs H Q => ∃ (a dx : Addr) (fs : List (Str × V)), xs = [.ref a] ∧ H a = some (.ins C dx fs) ∧ sp [.ref a] H (fun v H' => ∃ n : Nat, v = .int n ∧ n ≤ sizeLine ∧ Q (.int n) H') E
theorem call_lenO (c : LenC X.K C g) (F : FnOk X.prog X.w X.K X.mg X.base CX k g fd ps sp) (hb : Binds X.K fd ps []) (hr : Room (k + 1) X.A) (hx : Passes CX X E) : CallR X (.builtin "len") (rLenO C sp E) := by
  rintro pins s σ H xs us Q I r ⟨a, dx, fs, rfl, ha, q⟩
  obtain ⟨u, rfl, ru⟩ := r.one
  cases ru
  exact len_under (Q1 := fun n H' => Q (.int n) H') c F hb (sub_here hr) hx I ha q fun n H' s' t _ I' hq => ⟨.int n, H', I', ⟨t, rfl⟩, hq⟩
/-- something that is no more looked at -/
def junk (q : Addr) : HO := .ext fun h => ∃ o, h.get? q = some o
theorem junk_ok {P : Program} {w : World} {H : Hp} {h : Heap} {q : Addr} {o : Obj} (e : h.get? q = some o) : ObjOk P w H h q (junk q) := ⟨⟨_, e⟩, ⟨_, e⟩, fun _ _ ⟨u, z⟩ k => ⟨u, k _ z⟩⟩
/-- the class's __iter__ gives iter(l) of a list l, and it has a __len__ -/
structure IterC (K : PySem.W.Frag) (C gi gl : Addr) : Prop where
  it : PySem.W.findIn K (.ref C) "__iter__" = some (some (.ref gi))
  itF : PySem.W.isFn K (.ref gi) = true
  ln : LenC K C gl
/-- list(x) -/
def rListO (K : PySem.W.Frag) (C : Addr) (si sl : Sp) (E : XK) : List V → Hp → VK → Prop := fun xs H Q => ∃ (a dx : Addr) (fs : List (Str × V)), xs = [.ref a] ∧ H a = some (.ins C dx fs) ∧ ∀ q, H q = none →
  si [.ref a] (upd H q (.lst [])) (fun v H1 => ∃ (l it : Addr) (zs : List V), v = .ref it ∧ H1 a = some (.ins C dx fs) ∧ H1 it = some (ItO l it 0) ∧ SqL K H1 l zs ∧ l ≠ q ∧ l ≠ it ∧ H1 q = some (.lst []) ∧
    sl [.ref a] H1 (fun v H2 => ∃ n : Nat, v = .int n ∧ n ≤ sizeLine ∧ H2 it = some (ItO l it 0) ∧ SqL K H2 l zs ∧ H2 q = some (.lst []) ∧ Q (.ref q) (upd (upd H2 it (junk it)) q (.lst zs))) E) E
/-- .. where nothing is raised -/
theorem run_under0 {Q : VK} {us : List Value} {vs : List V} {Ex : Value → Shared → Prop} (F : FnOk X.prog X.w X.K X.mg X.base CX0 k g fd ps sp) (sb : Sub X k A1) (hb : Binds X.K fd ps []) (I : Inv X pins σ H s) (r : Vals vs us) (h : sp vs H Q E) :
    wpAny (model X.prog X.w) A1 (call (.ref g) us) (EP X pins σ Q) Ex s := by
  have len := F.len _ _ _ _ h
  have bnd := hb s us I.kIn (by rw [List.append_nil, ← r.length]; exact len)
  rw [List.append_nil] at bnd
  refine wpAny_call (codeAny_mono (F.run A1 X.stack s H ⟨us, []⟩ us vs Q E sb.room (env_under sb I) bnd r h) ?_)
  rintro (e | fl) s' z
  · exact False.elim z
  · cases fl <;> first | exact I.after z | exact z.elim
theorem len_under0 {R : Value → Shared → Prop} {Ex : Value → Shared → Prop} {Q1 : Nat → Hp → Prop} {dx : Addr} {fs : List (Str × V)} (c : LenC X.K C g) (F : FnOk X.prog X.w X.K X.mg X.base CX0 k g fd ps sp) (hb : Binds X.K fd ps []) (sb : Sub X (k + 1) A1) (I : Inv X pins σ H s)
    (ha : H a = some (.ins C dx fs)) (h : sp [.ref a] H (fun v H' => ∃ n : Nat, v = .int n ∧ n ≤ sizeLine ∧ Q1 n H') E) (hR : ∀ (n : Nat) H' s' t, n ≤ sizeLine → Inv X pins σ H' s' → Q1 n H' → R (.int n t) s') : wpAny (model X.prog X.w) A1 (call (.builtin "len") [.ref a]) R Ex s := by
  obtain ⟨ox, od, J⟩ := inst_of I ha
  refine Calls.call_function_entry kind_len plain_len entry_len (args_len1 _) ?_
  unfold Builtin.«len»
  refine wpAny_bind (m := oneArg "len" _) (wpAny_pure ?_)
  refine wpAny_bind (PySem.W.special_fn I.kIn J c.at_ (beq_iff_eq.mp c.fn) ?_)
  refine thn (run_under0 (us := [.ref a]) (vs := [.ref a]) F sb.in1 hb I (.cons rfl .nil) h) ?_
  rintro w s' ⟨z, H', I', rz, n, rfl, hn, hq⟩
  obtain ⟨t, rfl⟩ := rz
  have h63 : ((n : Int)) < 2 ^ 63 := by
    rw [sizeLine_eq] at hn
    omega
  refine wpAny_bind (wpAny_holding (wpAny_pure ?_))
  refine wpAny_bind (wpAny_letGo ?_)
  refine wpAny_ite_false (decide_eq_false (show ¬ ((n : Int) < 0) by omega)) ?_
  refine wpAny_ite_false (decide_eq_false (show ¬ ((n : Int) ≥ 2 ^ 63) by omega)) ?_
  exact wpAny_bind (wpAny_mkInt (wpAny_pure ⟨_, rfl, hR n H' _ _ hn (I'.tok _) hq⟩))
theorem hint_own {Q : Bool → Shared → Prop} {Ex : Value → Shared → Prop} {Q1 : Nat → Hp → Prop} {dx : Addr} {fs : List (Str × V)} (c : LenC X.K C g) (F : FnOk X.prog X.w X.K X.mg X.base CX0 k g fd ps sp) (hb : Binds X.K fd ps []) (sb : Sub X (k + 1) A1) (I : Inv X pins σ H s)
    (ha : H a = some (.ins C dx fs)) (h : sp [.ref a] H (fun v H' => ∃ n : Nat, v = .int n ∧ n ≤ sizeLine ∧ Q1 n H') E) (hR : ∀ b n H' s', Inv X pins σ H' s' → Q1 n H' → Q b s') : wpAny (model X.prog X.w) A1 (Builtin.List.listLengthHint (.ref a)) Q Ex s := by
  obtain ⟨ox, od, J⟩ := inst_of I ha
  unfold Builtin.List.listLengthHint
  refine wpAny_bind (wpAny_bind (J.type.here ((PySem.W.looks_findIn I.kIn c.at_).here ?_)))
  refine PySem.W.KFB.if_not rfl ?_
  refine PySem.W.KFB.if_so rfl ?_
  refine wpAny_bind (wpAny_rule ?_)
  refine wpAny_bind (wpAny_attempt (len_under0 c F hb sb I ha h ?_))
  intro n H' s' t hn I' hq
  show wpAny _ _ (pure (some (n : Int)) >>= _) _ _ _
  refine wpAny_bind (wpAny_pure ?_)
  have hl : Builtin.List.listTooLong ((n : Int).toNat) = false := by
    rw [Int.toNat_natCast]; exact notLongL hn
  refine PySem.W.KFB.if_not hl ?_
  exact wpAny_pure (hR _ n H' s' I' hq)
/-! ### the list's iterator, drawn to its end -/
theorem py_item {it l : Addr} {i : Nat} {items : Array Value} {v : Value} {prog : Program} {w : World} {Q : Option Value → Shared → Prop} {Ex : Value → Shared → Prop} (ho : s.heap.get? it = some (GNX.itObj l i)) (hl : s.heap.IsList l items) (hv : items[i]? = some v)
    (hQ : ∀ h', h'.get? it = some (GNX.itObj l (i + 1)) → (∀ b o, b ≠ it → s.heap.get? b = some o → h'.get? b = some o) → Q (some v) { s with heap := h' }) : wpAny (model prog w) A1 (pyNext (.ref it)) Q Ex s := by
  have hT : s.TypeIs (.ref it) "list_iterator" := ⟨_, ho, rfl⟩
  unfold pyNext
  refine wpAny_bind (wpAny_attempt (wpAny_callSpecial?_slot (name := Str.ofString "__next__") hT slot_listiter_next (wpAny_call_entry slot_listiter_next hT entry_listiter_next (GNX.next_item ho hl hv ?_) (args_listiter_next _))))
  intro h' e sb
  exact wpAny_pure (hQ h' e fun b o hb eb => (sb.2 b hb).trans eb)
theorem py_end {it l : Addr} {i : Nat} {items : Array Value} {prog : Program} {w : World} {Q : Option Value → Shared → Prop} {Ex : Value → Shared → Prop} (hh : A1.handled = none) (ho : s.heap.get? it = some (GNX.itObj l i)) (hl : s.heap.IsList l items) (hv : items[i]? = none)
    (hQ : ∀ h', h'.get? it = some (GNX.itEnd i) → (∀ b o, b ≠ it → s.heap.get? b = some o → h'.get? b = some o) → Q none { s with heap := h' }) : wpAny (model prog w) A1 (pyNext (.ref it)) Q Ex s := by
  have hT : s.TypeIs (.ref it) "list_iterator" := ⟨_, ho, rfl⟩
  unfold pyNext
  refine wpAny_bind (wpAny_attempt (wpAny_callSpecial?_slot (name := Str.ofString "__next__") hT slot_listiter_next (wpAny_call_entry slot_listiter_next hT entry_listiter_next (GNX.next_end hh ho hl hv ?_) (args_listiter_next _))))
  intro h1 h' e vs e1 sb k1 ne he hv'
  refine wpAny_bind (wpAny_isInstance (T := "StopIteration") (b := true) ⟨_, he, rfl⟩ PySem.isSubtype_stop ?_)
  exact wpAny_pure (hQ h' (k1 _ _ e1) fun b o hb eb => k1 _ _ ((sb.2 b hb).trans eb))
theorem same_upd {H : Hp} {q : Addr} {o : HO} (e : H q = some o) : upd H q o = H := by
  funext b
  by_cases z : b = q
  · rw [z, upd_same, e]
  · rw [upd_ne z]
theorem take_next' {α : Type} {xs : List α} {i : Nat} {x : α} (h : xs[i]? = some x) : xs.take (i + 1) = xs.take i ++ [x] := by
  rw [List.take_add_one, h]; rfl
/-- the loop that fills the list at q -/
theorem drain {q l it : Addr} {zs : List V} {F : Hp} {R : Result → Shared → Prop} (hh : A1.in1.handled = none) (lit : l ≠ it) (lq : l ≠ q) (hne : it ≠ q) (hdone : ∀ s', Inv X pins σ F s' → R (.ok (.ret .none)) s') :
    ∀ (n i : Nat) (H1 : Hp) (s1 : Shared), zs.length - i = n → i ≤ zs.length → Inv X pins σ H1 s1 → H1 it = some (ItO l it i) → SqL X.K H1 l zs → H1 q = some (.lst (zs.take i)) → upd (upd H1 it (junk it)) q (.lst zs) = F →
      codeAny (model X.prog X.w) A1 (.builtin "list.extend.loop" ⟨[.ref q, .ref it, .none], []⟩) R s1 := by
  intro n
  induction n with
  | zero =>
    intro i H1 s1 hn hi I hit hl hq hF
    obtain ⟨its, rv, pl, hz⟩ := I.list hl
    have hlen := rv.length
    have nope : its.toArray[i]? = none := by
      rw [List.getElem?_toArray]
      exact List.getElem?_eq_none (by omega)
    refine codeAny_builtin PySem.F.entry_extend_loop ?_
    rw [Around.under_plainId PySem.F.plain_extend_loop _]
    refine wpAny_bind (m := pyNext (.ref it)) (py_end hh (itO_get I hit) pl.isList nope fun h' he hk => ?_)
    have J : Inv X pins σ (upd H1 it (junk it)) { s1 with heap := h' } := I.write (t' := s1.toks) (x := it) (e := it) (by rw [hit]; exact True.intro) (.inl rfl) (fun b u hb e => hk b u hb e) ⟨_, he⟩ (junk_ok he)
    have e : upd H1 it (junk it) = F := by
      rw [← hF]
      refine (same_upd ?_).symm
      rw [upd_ne hne.symm, hq, List.take_of_length_le (by omega)]
    rw [e] at J
    exact wpAny_pure (hdone _ J)
  | succ n ih =>
    intro i H1 s1 hn hi I hit hl hq hF
    obtain ⟨its, rv, pl, hz⟩ := I.list hl
    have hlen := rv.length
    have hx : zs[i]? = some zs[i] := List.getElem?_eq_getElem (by omega)
    obtain ⟨u, hu, ru⟩ := rv.get hx
    refine codeAny_builtin PySem.F.entry_extend_loop ?_
    rw [Around.under_plainId PySem.F.plain_extend_loop _]
    refine wpAny_bind (m := pyNext (.ref it)) (py_item (itO_get I hit) pl.isList (v := u) (by simpa using hu) fun h' he hk => ?_)
    have J : Inv X pins σ (upd H1 it (ItO l it (i + 1))) { s1 with heap := h' } := I.write (t' := s1.toks) (x := it) (e := it) (by rw [hit]; exact True.intro) (.inl rfl) (fun b u hb e => hk b u hb e) ⟨_, he⟩ (itO_ok he)
    have hq' : (upd H1 it (ItO l it (i + 1))) q = some (.lst (zs.take i)) := by rw [upd_ne hne.symm]; exact hq
    obtain ⟨_, ys, c, r2, hl2, e2⟩ := J.lstM hq'
    have hy : ys.length = i := by rw [← hl2, List.length_take]; omega
    refine wpAny_bind (m := updateSeq q (·.push u)) (wpAny_updateSeq e2 rfl (wpAny_pure ⟨plainId_quiet PySem.F.plain_extend_loop _, ?_⟩) (by rw [List.size_toArray]; omega) (by rw [Array.size_push, List.size_toArray]; omega))
    have J2 := J.lset (f := (·.push u)) (its' := ys ++ [u]) (ys := zs.take (i + 1)) (t' := s1.toks) hq' e2 (by simp) (by rw [take_next' hx]; exact r2.append (.cons ru .nil)) (by rw [List.length_take]; omega)
    refine ih (i + 1) _ _ (by omega) (by omega) J2 ?_ ?_ upd_same ?_
    · rw [upd_ne hne]; exact upd_same
    · exact (((Kp.refl [it, q] H1).put (by simp)).put (by simp)).ls (by simp [lit, lq]) hl
    · rw [← hF]
      funext b
      by_cases z : b = q
      · rw [z, upd_same, upd_same]
      · rw [upd_ne z, upd_ne z]
        by_cases y : b = it
        · rw [y, upd_same, upd_same]
        · rw [upd_ne y, upd_ne y, upd_ne z, upd_ne y]
theorem call_listO {gi gl : Addr} {fdi fdl : FuncData} {psi psl : List Str} {si sl : Sp} {ki kl : Nat} (c : IterC X.K C gi gl) (Fi : FnOk X.prog X.w X.K X.mg X.base CX0 ki gi fdi psi si) (bi : Binds X.K fdi psi []) (Fl : FnOk X.prog X.w X.K X.mg X.base CX0 kl gl fdl psl sl) (bl : Binds X.K fdl psl [])
    (hr : Room (max ki (kl + 1) + 2) X.A) (hcalm : X.calm = true := by rfl) : CallR X (.type "list") (rListO X.K C si sl E) := by
  rintro pins s σ H xs us Q I rv ⟨a, dx, fs, rfl, ha, hq⟩
  obtain ⟨u, rfl, ru⟩ := rv.one
  cases ru
  have sb0 : Sub X (max ki (kl + 1)) X.A.in1.in1 := (sub_here hr).in1.in1
  have hh : X.A.handled = none := I.ok.hd hcalm
  refine callType_codes (Q₁ := fun obj s₁ => obj = .ref s.heap.objs.size ∧ s₁ = { s with heap := s.heap.push { cls := .type "list", data := .seq #[] } }) PySem.F.called_list (PySem.F.typeCall_list_1 _) PySem.F.entry_list_init (code_list_new _ ⟨rfl, rfl⟩) ?_
  rintro obj s₁ ⟨rfl, rfl⟩
  have hS : (s.heap.push { cls := .type "list", data := .seq #[] }).get? s.heap.objs.size = some { cls := .type "list", data := .seq #[] } := Heap.get?_push_size _ rfl
  refine ⟨⟨_, hS, rfl⟩, PySem.F.args_list_init_2 _ _, ?_⟩
  have fr : H s.heap.objs.size = none := I.hok.fresh (Nat.le_refl _)
  have todo := hq _ fr
  generalize hqq : s.heap.objs.size = q at *
  have I1 : Inv X pins σ (upd H q (.lst [])) { s with heap := s.heap.push { cls := .type "list", data := .seq #[] } } := by
    rw [← hqq]
    exact I.lnew (its := []) (t' := s.toks) .nil (Nat.zero_le _)
  show wpAny _ _ (Builtin.List.listItems (.ref q) >>= fun old => Builtin.List.listUpdate (.ref q) (fun _ => #[]) >>= fun _ => letGo old.toList.reverse >>= fun _ => Builtin.List.listExtendWith (.ref q) (.ref a) .none) _ _ _
  refine wpAny_bind ?_
  unfold Builtin.List.listItems
  refine wpAny_bind (wpAny_seqItems hS rfl (wpAny_pure ?_))
  refine wpAny_bind (m := updateSeq q fun _ => #[]) (wpAny_updateSeq hS rfl ?_)
  have I2 := I1.lset (f := fun _ => #[]) (its := []) (its' := []) (ys := []) (t' := s.toks) upd_same hS rfl .nil (Nat.zero_le _)
  rw [upd_upd] at I2
  refine wpAny_bind (wpAny_letGo ?_)
  have ha2 : upd H q (.lst []) a = some (.ins C dx fs) := by rw [upd_ne (ne_of_none ha fr)]; exact ha
  obtain ⟨ox, od, J⟩ := inst_of I2 ha2
  obtain ⟨m0, hF⟩ := I2.fr
  have naq : a ≠ q := ne_of_none ha fr
  unfold Builtin.List.listExtendWith
  refine wpAny_bind (J.type.here ?_)
  have h1 : Builtin.List.listSameRef (.ref q) (.ref a) = false := beq_eq_false_iff_ne.mpr naq.symm
  refine PySem.W.KFB.if_not (by rw [h1]; rfl) ?_
  refine wpAny_bind (PySem.W.owit_iter hF I2.ok.mod.kin J c.it c.itF ?_)
  refine thn (run_under0 (us := [.ref a]) (vs := [.ref a]) Fi (sb0.mono (Nat.le_max_left _ _)) bi I2 (.cons rfl .nil) todo) ?_
  rintro w s2 ⟨z, H1, I3, rz, l, it, zs, rfl, ha3, hit, hl, lq, lit, hq3, hsl⟩
  cases rz
  unfold PySem.W.OwitIt
  have hT : s2.TypeIs (.ref it) "list_iterator" := ⟨_, itO_get I3 hit, rfl⟩
  refine wpAny_specialOf (name := Str.ofString "__next__") hT slot_listiter_next.lookup ?_
  refine wpAny_bind (wpAny_holding (hint_own c.ln Fl bl (sb0.mono (Nat.le_max_right _ _)) I3 ha3 hsl ?_))
  rintro room n H2 s3 I4 ⟨hit4, hl4, hq4, qend⟩
  have hne : it ≠ q := ne_of hit4 hq4 (fun z => by cases z)
  have fin : ∀ s4, Inv X pins σ H2 s4 → codeAny (model X.prog X.w) X.A.in1 (.builtin "list.extend.loop" ⟨[.ref q, .ref it, .none], []⟩) (wants (fun r s₂ => r = .none ∧ EP X pins σ Q (.ref q) s₂) X.xe) s4 := fun s4 I5 =>
    drain (A1 := X.A.in1) (F := upd (upd H2 it (junk it)) q (.lst zs)) (by simp [hh]) lit lq hne (fun s' I6 => ⟨rfl, .ref q, _, I6, rfl, qend⟩) _ 0 H2 s4 rfl (Nat.zero_le _) I5 hit4 hl4 (by rw [List.take_zero]; exact hq4) rfl
  refine wpAny_ite_split (fun _ => ?_) (fun _ => wpAny_pure ⟨plainId_quiet PySem.F.plain_extend_loop _, fin s3 I4⟩)
  refine wpAny_bind (wpAny_rule (wpAny_bind ?_))
  obtain ⟨_, its, k4, r4, hl5, e4⟩ := I4.lstM hq4
  cases r4
  refine wpAny_bind (m := updateSeq q (·.push .none)) (wpAny_updateSeq e4 rfl ?_)
  have I5 := I4.lset (f := (·.push Value.none)) (its' := [Value.none]) (ys := [.non]) (t' := s3.toks) hq4 e4 (by simp) (.cons rfl .nil) (by rw [List.length_singleton, sizeLine_eq]; decide)
  obtain ⟨_, its5, k5, r5, hl6, e5⟩ := I5.lstM upd_same
  obtain ⟨u5, rfl, ru5⟩ := r5.one
  refine wpAny_updateSeq (a := q) (f := (·.pop)) e5 rfl ?_ (by show 1 ≤ sizeLine; rw [sizeLine_eq]; decide) (by show 0 ≤ sizeLine + 1; exact Nat.zero_le _)
  have I6 := I5.lset (f := (·.pop)) (its := [u5]) (its' := []) (ys := []) (t' := s3.toks) upd_same e5 (by rfl) .nil (Nat.zero_le _)
  rw [upd_upd, same_upd hq4] at I6
  exact wpAny_pure ⟨plainId_quiet PySem.F.plain_extend_loop _, fin _ I6⟩
end
/-! ### a static method, called by its class's name -/
structure StaC (K : PySem.W.Frag) (C : Addr) (mc : Value) (m : Str) (p g : Addr) : Prop where
  rd : PySem.W.readsIn K C mc = true
  ga : PySem.W.specialIn K (.ref C) "__getattribute__" = some (some (.builtin "type.__getattribute__"))
  at_ : PySem.W.findCls K (.ref C) mc m = some (.get (.builtin "staticmethod.__get__") (.ref p) .none (.ref C))
  rc : ∃ rest, PySem.W.recIn K p "staticmethod" = some (.ref g :: rest)
  kp : PySem.W.keepIn K (.ref g) = true
def tSta (C : Addr) (sp : Sp) (dvs : List V) (E : XK) (ta : TE) (t : TA) : TE := fun σ H Q => ta σ H fun x H1 => x = .ref C ∧ t σ H1 fun vs H2 => sp (vs ++ dvs) H2 Q E
section
variable {X : Cx} {CX : CXT} {C p g : Addr} {mc : Value} {m : Str} {fd : FuncData} {ps : List Str} {sp : Sp} {E : XK} {k : Nat} {o e : Expr} {es : List Expr} {ta : TE} {t : TA} {apos pos : Pos} {dvs : List V} {ds : List Value}
theorem pe_sta {pl : Sem Bool} (he : PE X o ta) (c : StaC X.K C mc m p g) (F : FnOk X.prog X.w X.K X.mg X.base CX k g fd ps sp) (hr : Room k X.A) (hb : Binds X.K fd ps ds) (hd : Vals dvs ds) (hx : Passes CX X E) (ha : PA X (e :: es) t)
    (hst : starEach (e :: es) X.env = (false, eval e X.env) :: starEach es X.env := by rfl) (hpl : (backTo pos (starEach es X.env)).any (·.1) = false := by rfl)
    (ht : eval (.Call (.Attribute o m apos) (e :: es) [] pos) X.env = (eval o X.env >>= fun ov => standAt apos.atName >>= fun _ => holding [ov] (getMethod ov m pl) >>= fun fr => callWith pos fr.1 fr.2 (backTo pos (starEach (e :: es) X.env)) (backToKw pos (keywordEach [] X.env))) := by rfl) :
    PE X (.Call (.Attribute o m apos) (e :: es) [] pos) (tSta C sp dvs E ta t) := by
  refine ⟨fun pins s σ H Q I h => ?_⟩
  refine PySem.W.methodCall_KW (pl := pl) (thn (he.run pins s σ H _ I h) ?_) ht
  rintro u s1 ⟨x, H1, I1, rx, rfl, q⟩
  cases rx
  obtain ⟨rest, hp⟩ := c.rc
  refine PySem.W.method_cls I1.kIn c.ga (PySem.W.cls_bind I1.kIn c.rd c.at_ (wpAny_call ?_))
  refine PySem.W.sm_get (s := { s1 with toks := s1.toks + 1 }) I1.kIn hp (PySem.W.handed_on rfl ?_)
  refine PySem.W.callWith_K (first := []) (h₀ := X.base) I1.ok.mod.kin c.kp (thn (ha.run pos pins _ σ H1 _ (I1.tok _) q) fun us s2 ⟨vs, H2, I2, r, q2⟩ => ⟨I2.kIn, ?_⟩) hst hpl
  exact run_fn F hr hb hd hx I2 r q2
/-- x in t, t a tuple, of data of any depth -/
def rInT (K : PySem.W.Frag) (neg : Bool) : R2 := fun x y H Q => ∃ d ds, Dp K H x d ∧ Dp K H y (.tuple ds) ∧ SeqAt.shaped d = true ∧ SeqAt.shaped (.tuple ds) = true ∧ Q (.bl (if neg then !(ds.any fun z => PyData.eqv z d) else ds.any fun z => PyData.eqv z d)) H
theorem op_inT (hu : X.A.units + 65 < cLine) : OpR X (compareOp .In) (rInT X.K false) := by
  rintro pins s σ H x y v u Q I rx ry ⟨d, ds, hd, he, sd, se, q⟩
  obtain ⟨as, r1⟩ := Dp.reads I d x v hd rx
  obtain ⟨bs, r2⟩ := Dp.reads I (.tuple ds) y u he ry
  exact SeqAt.in_tuple_reads r2 r1 (SeqAt.canLay_of_shaped se) (SeqAt.canLay_of_shaped sd) (room_in_shaped sd hu) ⟨.bl _, H, I, rfl, q⟩
theorem op_notInT (hu : X.A.units + 65 < cLine) : OpR X (compareOp .NotIn) (rInT X.K true) := by
  rintro pins s σ H x y v u Q I rx ry ⟨d, ds, hd, he, sd, se, q⟩
  obtain ⟨as, r1⟩ := Dp.reads I d x v hd rx
  obtain ⟨bs, r2⟩ := Dp.reads I (.tuple ds) y u he ry
  exact SeqAt.notIn_tuple_reads r2 r1 (SeqAt.canLay_of_shaped se) (SeqAt.canLay_of_shaped sd) (room_in_shaped sd hu) ⟨.bl _, H, I, rfl, q⟩
end
end My

set_option Elab.async false
set_option linter.all false
set_option maxRecDepth 100000
set_option maxHeartbeats 4000000
/-! ### defs that close over their class, and super().__init__(..) of an own error -/
namespace My
open PySem L2 NdefX
/-- a block whose activation is known -/
structure PSat (X : Cx) (c : Code) (body : List Stmt) (t : TS) : Prop where
  run : ∀ (pins : List (Addr × Obj)) (s : Shared) (σ : L2.St) (H : Hp) (D : Ends), Inv X pins σ H s → t D σ H → wpAt (model X.prog X.w) X.A c (execs body X.env) (SP X pins D) X.xe s
structure PSat1 (X : Cx) (c : Code) (st : Stmt) (t : TS) : Prop where
  run : ∀ (pins : List (Addr × Obj)) (s : Shared) (σ : L2.St) (H : Hp) (D : Ends), Inv X pins σ H s → t D σ H → wpAt (model X.prog X.w) X.A c (exec st X.env) (SP X pins D) X.xe s
theorem psat_of {X : Cx} {c : Code} {body : List Stmt} {t : TS} (h : PSs X body t) : PSat X c body t := ⟨fun pins s σ H D I q => wpAt_of_wpAny (h.run pins s σ H D I q)⟩
theorem psat_cons {X : Cx} {c : Code} {st : Stmt} {rest : List Stmt} {t u : TS} (h1 : PSat1 X c st t) (h2 : PSs X rest u) : PSat X c (st :: rest) (tSeq t u) := by
  refine ⟨fun pins s σ H D I q => ?_⟩
  refine PySem.ks_wpAt_execs_cons (wpAt_mono (h1.run pins s σ H { D with nx := u D } I q) (fun f s1 r => ?_) fun _ _ z => z)
  cases f with
  | next =>
    obtain ⟨σ', H', I', r⟩ := r
    exact wpAt_of_wpAny (h2.run pins s1 σ' H' D I' r)
  | brk => exact r
  | cont => exact r
  | ret u => exact r
/-- the words of a def that closes over its class -/
def nfOf (x qual : Str) (st : Stmt) (cc cda : Addr) : NF := ⟨x, qual, defArgs st, defBody st, defScope st, [("__class__", cc)], cda⟩
structure FunX (K : PySem.W.Frag) (x qual : Str) (st : Stmt) (f : Addr) (fd : FuncData) (cc cda D : Addr) : Prop where
  ex : ∃ (oc : Value) (od : Option Addr) (kV doc pm : Value) (an : Option Addr) (ct : Value) (osl : Array (Option Value)),
    fd = PySem.W.fnX x qual (defArgs st) (defBody st) (defScope st) [("__class__", cc)] .none kV doc pm an (.ref cda) ct ∧ K.lookup f = some ⟨oc, od, .func fd, osl⟩ ∧ PySem.W.codeIn K (.ref cda) qual = true
  cell : ∃ (cl : Value) (cld : Option Addr) (csl : Array (Option Value)), K.lookup cc = some ⟨cl, cld, .cell (some (.ref D)), csl⟩
  kp : PySem.W.keepIn K (.ref f) = true
section
variable {P : Program} {w : World} {K : PySem.W.Frag} {mg : Str → Option Value} {base : Heap}
abbrev cxX (CX : CXT) (P : Program) (w : World) (K : PySem.W.Frag) (mg : Str → Option Value) (base : Heap) (N : List Str) (x qual : Str) (st : Stmt) (cc cda f : Addr) (A : Around) (outer : List Env) (s : Shared) (H : Hp) (E : XK) : Cx := ncx CX P w K mg base N (nfOf x qual st cc cda) f A outer s H E
theorem FunX.ok {CX : CXT} {x qual : Str} {st : Stmt} {f cc cda D : Addr} {fd : FuncData} {N ps : List Str} {k : Nat} {sp : Sp} (F : FunX K x qual st f fd cc cda D) (S : NScope N ps ["__class__"] (defScope st)) (len : ∀ vs H Q E, sp vs H Q E → vs.length = ps.length)
    (hbody : ∀ (A : Around) (outer : List Env) (s : Shared) (H : Hp) (vs : List V) (Q : VK) (E : XK), Room k (A.deeper (envF (nfOf x qual st cc cda) f s.heap.objs.size)) → sp vs H Q E →
      ∃ t, PSat (cxX CX P w K mg base N x qual st cc cda f A outer s H E) (.func (defBody st) (envF (nfOf x qual st cc cda) f s.heap.objs.size)) (defBody st) t ∧ t { nx := fun _ H' => Q .non H', rt := Q } (startF N vs [some (.ref D)]) H) :
    FnOk P w K mg base CX (k + 1) f fd ps sp := by
  obtain ⟨oc, od, kV, doc, pm, an, ct, osl, rfl, lk, hcd⟩ := F.ex
  obtain ⟨cl, cld, csl, hcc⟩ := F.cell
  refine ⟨len, fun A outer s H args us vs Q E hr e0 hb r hsp => ?_⟩
  have hl := len _ _ _ _ hsp
  have KX : K.In s.heap := e0.mod.kin.keeps fun b o e => (e0.bs b o e).1
  have lim : s.heap.NoLimit := e0.mod.nolimit.keeps fun b o e => (e0.bs b o e).1
  have hcB := e0.mod.kin _ _ hcc
  have C : CellsAt (nfOf x qual st cc cda).cl ["__class__"] [some (.ref D)] s.heap H := by
    refine ⟨rfl, fun y c e => ?_, fun a b c e1 e2 => ?_, fun i y e => ?_⟩
    · have e' : (if y = ("__class__" : Str) then some cc else none) = some c := by
        rw [← e]
        show _ = List.lookup y [(("__class__" : Str), cc)]
        rw [List.lookup_cons, List.lookup_nil]
        by_cases h : y = ("__class__" : Str)
        · rw [if_pos h, beq_iff_eq.mpr h]
        · rw [if_neg h, beq_eq_false_iff_ne.mpr h]
      split at e'
      · cases e'
        exact ⟨(e0.bs _ _ hcB).2, _, _, KX _ _ hcc, rfl⟩
      · cases e'
    · have g : ∀ (y : Str) (d : Addr), List.lookup y [(("__class__" : Str), cc)] = some d → y = "__class__" := by
        intro y d e
        rw [List.lookup_cons, List.lookup_nil] at e
        by_cases h : y = ("__class__" : Str)
        · exact h
        · rw [beq_eq_false_iff_ne.mpr h] at e
          cases e
      exact (g a c e1).trans (g b c e2).symm
    · match i, e with
      | 0, e =>
        have ey : y = "__class__" := (Option.some.inj e).symm
        subst ey
        exact ⟨cc, rfl, fun v hv => ⟨.ref D, by cases hv; rfl, _, KX _ _ hcc, rfl⟩⟩
      | i + 1, e => cases e
  refine PySem.ks_codeAny_call_defAt (fd := PySem.W.fnX x qual (defArgs st) (defBody st) (defScope st) [("__class__", cc)] .none kV doc pm an (.ref cda) ct) (body := defBody st) (binds := ps.zip us) hr.depth (KX _ _ lk) rfl lim (PySem.W.codeRec_of KX hcd) rfl hb S.nocell (fun ⟨n, v⟩ hy => S.par n (List.of_mem_zip hy).1) (fun h₁ hns kp => ?_) S.co S.gen S.kind
  obtain ⟨t, ht, hq⟩ := hbody A outer s H vs Q E (hr.deeper _) hsp
  have I : Inv (cxX CX P w K mg base N x qual st cc cda f A outer s H E) [] (startF N vs [some (.ref D)]) H { s with heap := h₁, toks := s.toks + (ps.zip us).length } := inv_startN S hr.hd e0 hl r C hns kp
  refine wpAt_mono (ht.run [] _ (startF N vs [some (.ref D)]) H _ I hq) (fun fl s' hs => ?_) fun e s' hs => hs
  have fin : ∀ {σ' : L2.St} {H' : Hp} {v : V} {u : Value}, Inv (cxX CX P w K mg base N x qual st cc cda f A outer s H E) [] σ' H' s' → L2.RelV v u → Q v H' → CE outer P w H s Q u s' :=
    fun {σ' H' v u} J rv q => ⟨v, H', J.os, J.bare, J.base, J.hok, rv, q⟩
  cases fl with
  | ret u =>
    obtain ⟨v, σ', H', J, rv, q⟩ := hs
    exact fin J rv q
  | next =>
    obtain ⟨σ', H', J, q⟩ := hs
    exact fin (v := V.non) (u := Value.none) J rfl q
  | brk =>
    obtain ⟨_, _, _, q⟩ := hs
    exact False.elim q
  | cont =>
    obtain ⟨_, _, _, q⟩ := hs
    exact False.elim q
end

/-! ### super().__init__(e) -/
/-- what the written part says of an own error that is made by an __init__ of its own: OexC, its place in the chain -/
structure ErrC (K : PySem.W.Frag) (C : Addr) : Prop where
  ox : OexC K C
  sup : PySem.W.ks_superIn K C C "__init__" = some (some (.builtin "ValueError.__init__"))
  isV : PySem.W.subIn K (.ref C) (.type "ValueError") = some true
  opq : PySem.W.nsIn K cStatics "thirdparty.any" = some none
  me : PySem.W.mroIn K C (.ref C) = some true
/-- what the code object of the def tells -/
structure CodeF (K : PySem.W.Frag) (P : Program) (cda : Addr) : Prop where
  at_ : ∃ (ccl : Value) (cdd : Option Addr) (vs : Array Value) (ccs : Array (Option Value)) (file : Str) (tf : Tok), K.lookup cda = some ⟨ccl, cdd, .fields vs, ccs⟩ ∧ vs[2]? = some (.str file tf) ∧ ((P.main.file : Str) == file) = true
  noTop : (P.main.scope.names.lookup ("super" : Str)).isSome = false
/-- the reading: the text is reckoned, nothing more -/
def tSupI (C : Addr) (ta : TA) : TS := fun D σ H => ∃ a : Addr, σ[0]? = some (some (.ref a)) ∧ H a = some (exo a C none) ∧ ta σ H fun vs H1 => vs.length ≤ 1000 ∧ H1 a = some (exo a C none) ∧ D.nx σ H1
section
variable {X : Cx}
theorem psat_sup {body : List Stmt} {f cc cda C : Addr} {fd : FuncData} {oc : Value} {od : Option Addr} {osl : Array (Option Value)} {cl : Value} {cld : Option Addr} {csl : Array (Option Value)} {ar : Arg} {e : Expr} {es : List Expr} {ta : TA} {p0 p1 apos cpos pos : Pos} {pl : Sem Bool}
    (T : ErrC X.K C) (G : CodeF X.K X.prog cda)
    (hf : X.K.lookup f = some ⟨oc, od, .func fd, osl⟩) (hp : (fd.params.posonlyargs ++ fd.params.args).head? = some ar)
    (hcell : X.K.lookup cc = some ⟨cl, cld, .cell (some (.ref C)), csl⟩) (hsuper : X.mg "super" = none)
    (hfu : X.env.func = some f) (hco : X.env.code = .ref cda) (hcl : X.env.cells.lookup ("__class__" : Str) = some cc)
    (hks : X.env.scope.names.lookup ("super" : Str) = some .globalImplicit) (hkc : X.env.scope.names.lookup ("__class__" : Str) = some .free) (hka : X.env.scope.names.lookup ar.arg = some .local)
    (hN : X.N[0]? = some ar.arg) (ha : PA X (e :: es) ta)
    (hev : eval (.Call (.Attribute (.Call (.Name "super" p0) [] [] p1) "__init__" apos) (e :: es) [] cpos) X.env = (do
      let ov ← attributeBase (.Call (.Name "super" p0) [] [] p1) "__init__" X.env (eval (.Call (.Name "super" p0) [] [] p1) X.env)
      standAt apos.atName
      let (f, first) ← holding [ov] (getMethod ov "__init__" pl)
      callWith cpos f first (backTo cpos (starEach (e :: es) X.env)) []))
    (hst : starEach (e :: es) X.env = (false, eval e X.env) :: starEach es X.env) (hpl : (backTo cpos (starEach es X.env)).any (·.1) = false)
    (hsw : swapsWith (.Call (.Attribute (.Call (.Name "super" p0) [] [] p1) "__init__" apos) (e :: es) [] cpos) none pos.line X.env = pure false) (hint : interactive X.env = false) :
    PSat1 X (.func body X.env) (.Expr (.Call (.Attribute (.Call (.Name "super" p0) [] [] p1) "__init__" apos) (e :: es) [] cpos) pos) (tSupI C ta) := by
  refine ⟨fun pins s σ H D I h => ?_⟩
  obtain ⟨a, hσ, ea, q⟩ := h
  obtain ⟨ccl, cdd, vs, ccs, file, tf, hcode, hvs, hfile⟩ := G.at_
  obtain ⟨nm, qn, N, bs, bm, sn, sub, ab, col, dd, k0, k1, k2, k3, k5, hC, hbm⟩ := T.ox.cls
  have hcls : PySem.W.clsIn X.K C = some { name := nm, bases := bs, mro := .ref C :: bm, ns := N, qualname := qn, hasDict := true, slotNames := sn, subclasses := sub, abstract := ab, collection := col, hasDel := false } := by unfold PySem.W.clsIn; rw [hC] <;> rfl
  obtain ⟨t1, ho⟩ := exo_at I.hok ea
  obtain ⟨hh, g, d, t, os⟩ := s
  have XK := I.kIn
  obtain ⟨mb, hb1, hb2⟩ := I.mod.blt
  obtain ⟨m, hn, hl⟩ := id I.loc
  obtain ⟨u0, ru0, lk0⟩ := hl 0 ar.arg (.ref a) hN hσ (.inl hka)
  obtain rfl : u0 = Value.ref a := ru0
  have hv : m ar.arg = some (Value.ref a) := by
    rcases lk0 with ⟨_, e⟩ | ⟨z, _⟩
    · exact e
    · exfalso
      rcases z with z | z
      · have z' : X.env.scope.names.lookup ar.arg = some .cell := z
        rw [hka] at z'; cases z'
      · have z' : X.env.scope.names.lookup ar.arg = some .free := z
        rw [hka] at z'; cases z'
  refine PySem.ks_wpAt_Expr_any (PySem.ks_wpAt_MethodCall ?_ hev) hint hsw
  refine PySem.ks_wpAt_super_base (env := X.env) hks hkc (by decide) hfu (XK _ _ hf) rfl hp hco (XK _ _ hcode) rfl hvs hfile G.noTop ?_
  refine PySem.W.ks_loadName_global I.ok.kind hks (PySem.Calls.loadGlobal_builtin (by rw [I.ok.glob]; exact I.mod.glob.keeps I.bk) hsuper (by rw [I.ok.blt]; exact hb1.keeps I.bk) ((hb2 "super" (by decide)).trans (by decide +kernel)) ⟨rfl, ?_⟩)
  refine wpAny_loadName_free I.ok.kind hkc hcl ⟨_, XK _ _ hcell, rfl⟩ ?_
  refine wpAny_loadName_local I.ok.kind hka hn hv ?_
  refine ks_wpAny_isType_cls (XK _ _ hC) rfl ⟨rfl, ?_⟩
  refine ks_wpAny_call_super (XK _ _ hC) rfl ho rfl (fun c z => nomatch z) (PySem.W.looks_mroIn XK T.me) (fun h' e1 k1' => ?_)
  have I1 : Inv X pins σ H ⟨h', g, d, t, os⟩ := I.kept (t' := t) k1'
  have X1 := I1.kIn
  have ho1 := k1' _ _ ho
  have IA : PySem.W.InstAt h' a _ C none := ⟨ho1, rfl, rfl, trivial⟩
  refine PySem.W.kxs_getMethod PySem.W.kxs_ValueError e1 (PySem.W.looks_opaque X1 T.opq) (l₀ := .ref C :: bm) ?_ rfl X1 ?_ (IA.type.andThen (PySem.W.looks_subIn X1 T.isV)) (PySem.W.ks_ne X1 IA hcls) (by decide) ?_
  · exact fun A Q E s k q => wpAny_bind ((PySem.W.looks_clsIn X1 hcls) A _ E s k (wpAny_pure q))
  · have q1 := T.sup
    unfold PySem.W.ks_superIn at q1
    rw [hcls] at q1
    exact q1
  have I2 : Inv X pins σ H ⟨h'.push (PySem.W.kxs_mw "ValueError.__init__" a), g, d, t + 1, os⟩ := I1.kept (t' := t + 1) (fun b o z => Heap.get?_push_of_some _ z)
  have hu2 : (h'.push (PySem.W.kxs_mw "ValueError.__init__" a)).get? h'.objs.size = some (PySem.W.kxs_mw "ValueError.__init__" a) := Heap.get?_push_size _ rfl
  have hHu : H h'.objs.size = none := I1.hok.fresh (Nat.le_refl _)
  have J2 : Inv X ((h'.objs.size, PySem.W.kxs_mw "ValueError.__init__" a) :: pins) σ H ⟨h'.push (PySem.W.kxs_mw "ValueError.__init__" a), g, d, t + 1, os⟩ := by
    refine I2.pins_of fun p hp => ?_
    rcases List.mem_cons.mp hp with rfl | hp
    · exact ⟨hu2, hHu, Nat.ne_of_gt I1.lt, I1.nofs (Nat.le_refl _), fun v z => nomatch z⟩
    · exact I2.pin p (List.mem_append_right _ hp)
  have key : wpAny (model X.prog X.w) X.A (spliced (backTo cpos (starEach (e :: es) X.env))) (fun vs s₁ => PySem.W.KxsAt "ValueError.__init__" h'.objs.size a s₁.heap ∧ wpAny (model X.prog X.w) X.A (call (.ref h'.objs.size) vs) (fun _ => SP X pins D .next) X.xe s₁) X.xe ⟨h'.push (PySem.W.kxs_mw "ValueError.__init__" a), g, d, t + 1, os⟩ := by
    refine thn (ha.run cpos _ _ σ H _ J2 q) fun us s3 ⟨vs3, H1, I3, rv, hvl, ea1, qn⟩ => ?_
    have hu3 := (I3.pin (h'.objs.size, PySem.W.kxs_mw "ValueError.__init__" a) (List.mem_append_right _ List.mem_cons_self)).1
    refine ⟨hu3, ?_⟩
    have J3 : Inv X pins σ H1 s3 := I3.pins_of fun p hp => I3.pin p (List.mem_append_right _ (List.mem_cons_of_mem _ hp))
    obtain ⟨t2, ho3⟩ := exo_at J3.hok ea1
    have hus : us.length ≤ sizeLine := by
      rw [← Paired.length rv, sizeLine_eq]; omega
    have hC3 := J3.kIn _ _ hC
    obtain ⟨h3, g3, d3, tk3, os3⟩ := s3
    refine wpAny_call (codeAny_of_tree ?_)
    show wpAny _ X.A.in1 (callAny (.ref h'.objs.size) ⟨us, []⟩) _ _ _
    simp only [callAny]
    refine wpAny_bind (wpAny_load hu3 ?_)
    simp only [PySem.W.kxs_mw, show (Value.type "method-wrapper" == Value.type "method" || Value.type "method-wrapper" == Value.type "builtin_function_or_method" || Value.type "method-wrapper" == Value.type "method-wrapper") = true by decide, if_true]
    refine PySem.W.KFB.if_so (by decide) ?_
    refine wpAny_bind (PySem.W.check_bound_init F.excBase_ValueError.toExcCallFacts hC3 ho3 rfl ?_)
    refine wpAny_bind (wpAny_pure (wpAny_pure ?_))
    refine ⟨plainId_quiet F.excBase_ValueError.init.plain _, codeAny_builtin F.excBase_ValueError.initEntry ?_⟩
    refine PySem.W.exc_init_tree (cls := .ref C) (t0 := t2) (dv := none) (c2 := .none) (c3 := .none) (b4 := .bool false) ho3 hus fun h4 k4 hx4 ht4 => ?_
    have J := J3.write (t' := tk3) (x := a) (e := a) (o := exo a C none) (h' := h4) (by rw [ea1]; exact True.intro) (.inl rfl) k4 ⟨_, hx4⟩ (exo_ok hx4)
    have eu : upd H1 a (exo a C none) = H1 := by
      funext b
      by_cases hb : b = a
      · rw [hb, upd_same, ea1]
      · rw [upd_ne hb]
    rw [eu] at J
    exact ⟨σ, H1, J, qn⟩
  rw [hst] at key ⊢
  refine PySem.W.kxs_callWith (i := "ValueError.__init__") (x := a) (by show (false || (backTo cpos (starEach es X.env)).any (·.1)) = false; rw [hpl]; rfl) ?_
  exact PySem.Calls.evalArgs_plain key
end
end My

set_option Elab.async false
set_option linter.all false
set_option maxRecDepth 100000
set_option maxHeartbeats 4000000
/-! ### own errors: made, raised, caught, asked -/
namespace My
open PySem L2 NdefX
/-- __init__ of an error with one field: what it promises -/
def spErr1 (C : Addr) (f : Str) (P : V → Prop) : Sp := fun vs H Q _ => ∃ (a : Addr) (v : V), vs = [.ref a, v] ∧ P v ∧ H a = some (exo a C none) ∧ ∀ dx, H dx = none → dx ≠ a → Q .non (upd (upd H dx (exd dx [(f, v)])) a (exo a C (some dx)))
/-- .. with two fields -/
def spErr2 (C : Addr) (f g : Str) (P : V → V → Prop) : Sp := fun vs H Q _ => ∃ (a : Addr) (v u : V), vs = [.ref a, v, u] ∧ P v u ∧ H a = some (exo a C none) ∧ ∀ dx, H dx = none → dx ≠ a → Q .non (upd (upd (upd H dx (exd dx [(f, v)])) a (exo a C (some dx))) dx (exd dx [(g, u), (f, v)]))
theorem err_kp {H1 H2 : Hp} {a dx : Addr} {fs : List (Str × V)} (na : H1 a = none) (nd : H1 dx = none) (k : ∀ b, b ≠ a → b ≠ dx → H2 b = H1 b) : Kp [] H1 (upd (del H2 a) dx (.xd fs)) := fun b o _ e => by
  have h1 : b ≠ a := ne_of_none e na
  have h2 : b ≠ dx := ne_of_none e nd
  rw [upd_ne h2, del_ne h1, k b h1 h2]
  exact e
theorem err1_made {C : Addr} {f : Str} {P : V → Prop} {v : V} {H1 : Hp} {Q : XK} (hp : P v) (q : ∀ d H', H1 d = none → H' d = some (.xd [(f, v)]) → Kp [] H1 H' → Q (.ref C) (some d) H') :
    ([v] : List V).length ≤ 1000 ∧ ∀ a, H1 a = none → spErr1 C f P (.ref a :: ([v] ++ [])) (upd H1 a (exo a C none)) (fun v H2 => v = .non ∧ ∃ (d : Addr) (fs : List (Str × V)), H2 a = some (exo a C (some d)) ∧ H2 d = some (exd d fs) ∧ H1 d = none ∧ Q (.ref C) (some d) (upd (del H2 a) d (.xd fs))) (fun _ _ _ => False) := by
  refine ⟨by show 1 ≤ 1000; decide, fun a na => ⟨a, v, rfl, hp, upd_same, fun dx ndx hne => ?_⟩⟩
  rw [upd_ne hne] at ndx
  refine ⟨rfl, dx, _, upd_same, by rw [upd_ne hne]; exact upd_same, ndx, q dx _ ndx upd_same (err_kp na ndx fun b h1 h2 => ?_)⟩
  rw [upd_ne h1, upd_ne h2, upd_ne h1]
theorem err2_made {C : Addr} {f g : Str} {P : V → V → Prop} {v u : V} {H1 : Hp} {Q : XK} (hp : P v u) (q : ∀ d H', H1 d = none → H' d = some (.xd [(g, u), (f, v)]) → Kp [] H1 H' → Q (.ref C) (some d) H') :
    ([v, u] : List V).length ≤ 1000 ∧ ∀ a, H1 a = none → spErr2 C f g P (.ref a :: ([v, u] ++ [])) (upd H1 a (exo a C none)) (fun v H2 => v = .non ∧ ∃ (d : Addr) (fs : List (Str × V)), H2 a = some (exo a C (some d)) ∧ H2 d = some (exd d fs) ∧ H1 d = none ∧ Q (.ref C) (some d) (upd (del H2 a) d (.xd fs))) (fun _ _ _ => False) := by
  refine ⟨by show 2 ≤ 1000; decide, fun a na => ⟨a, v, u, rfl, hp, upd_same, fun dx ndx hne => ?_⟩⟩
  rw [upd_ne hne] at ndx
  refine ⟨rfl, dx, _, by rw [upd_ne hne.symm]; exact upd_same, upd_same, ndx, q dx _ ndx upd_same (err_kp na ndx fun b h1 h2 => ?_)⟩
  rw [upd_ne h2, upd_ne h1, upd_ne h2, upd_ne h1]
/-- what the written part says of an error class that is caught and asked -/
structure KitC (K : PySem.W.Frag) (C : Addr) : Prop where
  cl : (PySem.W.clsIn K C).isSome = true
  ga : PySem.W.findIn K (.ref C) "__getattribute__" = some (some (.builtin "BaseException.__getattribute__"))
  gg : PySem.W.findIn K (.ref C) "__getattr__" = some none
  bx : PySem.W.subIn K (.ref C) (.type "BaseException") = some true
  hc : PySem.W.findIn K (.ref C) "__class__" = some (some (.builtin "object.__class__"))
  hn : PySem.W.specialIn K (.builtin "object.__class__") "__get__" = some (some (.builtin "getset_descriptor.__get__"))
  ht : PySem.W.takesIn K (.builtin "object.__class__") = some true
  ob : PySem.W.mroIn K C (.type "object") = some true
/-- isinstance(e, c), e the error that the suite holds -/
def rIsX (K : PySem.W.Frag) (a : Addr) (cls : Value) (d : Option Addr) : List V → Hp → VK → Prop := fun xs H Q => ∃ (c : V) (cv : Value) (b : Bool) (D dd : Addr) (fs : List (Str × V)), xs = [.ref a, c] ∧ (∀ u, RelV c u → u = cv) ∧ cls = .ref D ∧ d = some dd ∧ H dd = some (.xd fs) ∧ KitC K D ∧ PySem.W.kitOne K (.ref D) cv = some b ∧ Q (.bl b) H
/-- .. a tuple of classes that was just laid -/
def rIsXT (K : PySem.W.Frag) (a : Addr) (cls : Value) (d : Option Addr) : List V → Hp → VK → Prop := fun xs H Q => ∃ (tp : Addr) (cs : List V) (us : List Value) (b : Bool) (D dd : Addr) (fs : List (Str × V)), xs = [.ref a, .ref tp] ∧ H tp = some (.tup cs) ∧ Paired ClsV cs us ∧ cls = .ref D ∧ d = some dd ∧ H dd = some (.xd fs) ∧ KitC K D ∧ PySem.W.kitAny K (.ref D) us = some b ∧ Q (.bl b) H
section
variable {X : Cx} {a : Addr} {oe : Obj} {cls : Value} {d : Option Addr} {pn : List (Addr × Obj)}
theorem inst_x {pins : List (Addr × Obj)} {s : Shared} {σ : L2.St} {H : Hp} {D dd : Addr} {fs : List (Str × V)} (I : Inv (X.suite a ((a, oe) :: pn)) pins σ H s) (hz : Zc (.ref D) (some dd) oe) (hf : ∃ vs, oe.data = .fields vs) (e : H dd = some (.xd fs)) : ∃ od, PySem.W.InstAt s.heap a oe D (some od) := by
  obtain ⟨ha, _⟩ := I.pin (a, oe) (List.mem_append_left _ List.mem_cons_self)
  obtain ⟨vs, hv⟩ := hf
  obtain ⟨mA, hns, _⟩ := (show ObjOk X.prog X.w H s.heap dd (.xd fs) from I.hok dd _ e)
  obtain ⟨od, ho, _⟩ := lookIn_ns hns
  exact ⟨od, ha, hz.1, by unfold PySem.W.notCls; rw [hv] <;> rfl, by rw [hz.2]; exact ho⟩
theorem call_isX (hz : Zc cls d oe) (hf : ∃ vs, oe.data = .fields vs) : CallR (X.suite a ((a, oe) :: pn)) (.builtin "isinstance") (rIsX X.K a cls d) := by
  intro pins s σ H xs us Q I r h
  obtain ⟨c, cv, b, D, dd, fs, rfl, hcv, rfl, rfl, ed, T, e, q⟩ := h
  obtain ⟨u1, u2, rfl, r1, r2⟩ := vals2 r
  cases (show u1 = Value.ref a from r1)
  cases hcv _ r2
  obtain ⟨od, J⟩ := inst_x I hz hf ed
  exact PySem.W.kia_one (PySem.W.kitx_exc T.cl T.ga T.gg T.bx T.hc T.hn T.ht T.ob) I.kIn J e (fun z => nomatch z) fun tk => ⟨.bl b, H, I.tok tk, rfl, q⟩
theorem call_isXT (hz : Zc cls d oe) (hf : ∃ vs, oe.data = .fields vs) : CallR (X.suite a ((a, oe) :: pn)) (.builtin "isinstance") (rIsXT X.K a cls d) := by
  intro pins s σ H xs us Q I r h
  obtain ⟨tp, cs, ws, b, D, dd, fs, rfl, hT, k, rfl, rfl, ed, T, e, q⟩ := h
  obtain ⟨u1, u2, rfl, r1, r2⟩ := vals2 r
  cases (show u1 = Value.ref a from r1)
  cases (show u2 = Value.ref tp from r2)
  obtain ⟨od, J⟩ := inst_x I hz hf ed
  obtain ⟨_, its, rv, o, h1, h2, n, h3⟩ := (show ObjOk X.prog X.w H s.heap tp (.tup cs) from I.hok tp _ hT)
  cases ClsV.all k rv
  obtain ⟨oc, od2, dt, sl⟩ := o
  simp only at h2 h3
  subst h2 h3
  exact PySem.W.kia_tup (PySem.W.kitx_exc T.cl T.ga T.gg T.bx T.hc T.hn T.ht T.ob) I.kIn J h1 e (fun z => nomatch z) fun tk => ⟨.bl b, H, I.tok tk, rfl, q⟩
end
end My

set_option Elab.async false
set_option linter.all false
set_option maxRecDepth 100000
set_option maxHeartbeats 4000000
/-! ### try with several clauses that bind the error -/
namespace My
open PySem PySem.Spec PyProof.Rows L2
/-- one clause: the class that it names, the slot of its name, its suite's reading -/
structure Cla where
  c : Value
  i : Nat
  ts : Addr → Value → Option Addr → TS
/-- behind a suite the name in slot i is gone -/
def Ends.off (i : Nat) (D : L2.Ends) : L2.Ends where
  nx σ H := D.nx (σ.set i none) H
  rt := D.rt
  bk σ H := D.bk (σ.set i none) H
  ct σ H := D.ct (σ.set i none) H
/-- what clauses, tried in turn, wish -/
def wClas (K : PySem.W.Frag) (W0 : WX) (D : L2.Ends) : List Cla → WX
  | [] => W0
  | k :: ks => fun cls d σ H => ∃ hit, PySem.W.exmOne K cls k.c = some hit ∧ (hit = true → ∀ a, H a = none → k.ts a cls d (Ends.off k.i D) (σ.set k.i (some (.ref a))) H) ∧ (hit = false → wClas K W0 D ks cls d σ H)
/-- the clauses as they are written -/
inductive Clauses (X : Cx) : List ExceptHandler → List Cla → Prop
  | nil : Clauses X [] []
  | cons {k : Cla} {ks : List Cla} {x n : Str} {b1 : Stmt} {bs : List Stmt} {p1 p2 : Pos} {hs : List ExceptHandler} (nm : Names X x k.c) (at_ : X.N[k.i]? = some n) (lo : X.env.kindOf n = some .local)
      (suite : ∀ (a : Addr) (oe : Obj) (cls : Value) (d : Option Addr) (pn : List (Addr × Obj)), Zc cls d oe → (∃ vs, oe.data = .fields vs) → PSs (X.suite a ((a, oe) :: pn)) (b1 :: bs) (k.ts a cls d)) (more : Clauses X hs ks) :
      Clauses X (.ExceptHandler (some (.Name x p1)) (some n) (b1 :: bs) p2 :: hs) (k :: ks)
section
variable {X : Cx} {pins : List (Addr × Obj)} {σ : L2.St} {H : Hp} {s0 sI : Shared} {h3 B : Heap} {a : Addr} {cls : Value} {d : Option Addr} {D : L2.Ends} {W0 : WX}
/-- the clauses are tried, the error being at a -/
theorem clauses_run (top : X.stack = X.env :: X.outer) (fr : X.env.frame = some X.env.locals) (nd : X.N.Nodup) (tk : Takes X W0) (J : Inv X pins σ H sI) (na : H a = none)
    (J' : ∀ h4, HandSPX.FlyingZ B (X.env :: X.outer) a (Zc cls d) h4 → h3.UpToSlots h4 → Inv X pins σ H { s0 with heap := h4 })
    (out : W0 cls d σ H → ∀ (h4 : Heap), HandSPX.HeldZ B (X.env :: X.outer) a (Zc cls d) X.env.locals h4 → h3.UpToSlots h4 → X.xe (.ref a) { s0 with heap := h4 })
    (fl : HandSPX.FlyingZ B (X.env :: X.outer) a (Zc cls d) h3) : ∀ {hs : List ExceptHandler} {ks : List Cla}, Clauses X hs ks → wClas X.K W0 D ks cls d σ H →
      wpAny (model X.prog X.w) X.A (handleBy (.ref a) X.env hs) (SP X pins D) X.xe { s0 with heap := h3 } := by
  have ok := J.ok
  have J3 := J' h3 fl (Heap.UpToSlots.refl _)
  have far : ∀ {h : Heap} {o : Obj} {vs : Array Value}, h.FunFrames B (X.env :: X.outer) → h.get? a = some o → o.data = .fields vs → a ∉ frs (X.env :: X.outer) := by
    intro h o vs ff e dd hm
    obtain ⟨_, o', e', other⟩ := ff.mem hm
    cases e.symm.trans e'
    exact other _ dd
  obtain ⟨oe, vs, he, hz, hd⟩ := fl.there
  have away := far fl.2.2.1 he hd
  have nL : a ≠ X.env.locals := by
    intro z
    exact away (List.mem_filterMap.mpr ⟨X.env, List.mem_cons_self, by rw [fr, z]⟩)
  have nF : a ∉ X.fs := by
    intro hm
    obtain ⟨e, me, q⟩ := List.mem_filterMap.mp hm
    exact away (List.mem_filterMap.mpr ⟨e, List.mem_cons_of_mem _ me, q⟩)
  have S3 := J3.suite he hd na nL nF
  intro hs ks C
  induction C with
  | nil =>
    intro q
    refine wpAny_handleBy_nil ?_
    obtain ⟨_, _, _, o1, v1, T1, _, _, e1, _, d1, f1, _⟩ := id fl
    unfold PySem.passOn
    refine wpAny_bind (wpAny_field e1 d1 f1 ?_)
    rw [if_neg (show ¬ ((Value.ref T1 == Value.none) = true) by simp)]
    have leave : wpAny (model X.prog X.w) X.A (setFlight (.ref a) X.env.frame) (fun _ s4 => wpAny (model X.prog X.w) X.A (throw (.ref a) : Sem Flow) (SP X pins D) X.xe s4) X.xe { s0 with heap := h3 } := by
      rw [fr]
      exact HandSPX.setFlight_upZ fl fun h4 held up => wpAny_throw (out q h4 held up)
    first | exact wpAny_bind (wpAny_pure (wpAny_bind leave)) | exact wpAny_bind leave
  | @cons k ks x n b1 bs p1 p2 hs nm at_ lo suite more ih =>
    rintro ⟨hit, e1, yes, no⟩
    refine wpAny_handleBy_cons (codeAny_handlers_test ?_) (by intro q; cases q)
    have looks : PySem.W.Looks (model X.prog X.w) h3 (typeOf (.ref a)) cls := by
      intro A Q E s kk q
      exact wpAny_typeOf_ref (kk _ _ he) (by rw [hz.1]; exact q)
    have named : ∀ {Q : Value → Shared → Prop} {E : Value → Shared → Prop}, Q k.c { s0 with heap := h3 } → wpAny (model X.prog X.w) (X.A.mark (some (.ref a))) (eval (.Name x p1) X.env) Q E { s0 with heap := h3 } := by
      intro Q E q
      obtain ⟨g1, g2, m1 | ⟨m1, m2, m3⟩⟩ := nm
      · exact ld_glob (X := X.suite a ((a, oe) :: (X.pn ++ pins))) S3 g1 m1 q g2
      · exact ld_blt (X := X.suite a ((a, oe) :: (X.pn ++ pins))) S3 g1 m1 m2 q m3 g2
    refine named ((PySem.W.exm_one (M := model X.prog X.w) J3.kIn looks e1).here ?_)
    cases hit with
    | false => exact (show wpAny _ X.A (handleBy (.ref a) X.env hs) _ _ _ from ih (no rfl))
    | true =>
      refine codeAny_handlers_suite_as (HandSPX.lands_againZ fl fun h4 fl4 up4 => ?_)
      have J4 := J' h4 fl4 up4
      obtain ⟨o4, v4, e4, z4, d4⟩ := fl4.there
      refine store_ok (X := X.suite a ((a, o4) :: (X.pn ++ pins))) (v := .ref a) (J4.suite e4 d4 na nL nF) nd at_ (.inl lo) rfl (fun s5 S5 => ?_) (.inr lo)
      refine wpAny_mono ((suite a o4 cls d (X.pn ++ pins) z4 ⟨_, d4⟩).run [] s5 _ H _ S5 (yes rfl a na)) ?_ fun _ _ z => z.elim
      rintro fl' s6 hsp
      have close : ∀ {τ : L2.St} {G : Hp} {Q : Shared → Prop}, Inv (X.suite a ((a, o4) :: (X.pn ++ pins))) [] τ G s6 → (∀ s7, Inv X pins (τ.set k.i none) G s7 → Q s7) →
          wpAny (model X.prog X.w) X.A (do bindName X.env n .none; unbindBehindTheSuite X.env n p2) (fun _ s7 => Q s7) X.xe s6 := fun S6 hq => gone_ok (S6.unsuite ok) nd at_ lo hq
      cases fl' with
      | ret u =>
        obtain ⟨v, τ, G, S6, r, q⟩ := hsp
        exact close S6 fun s7 J7 => ⟨_, _, _, J7, r, q⟩
      | _ =>
        obtain ⟨τ, G, S6, q⟩ := hsp
        exact close S6 fun s7 J7 => ⟨_, _, J7, q⟩
end
section
variable {X : Cx} {body : List Stmt} {h1 : ExceptHandler} {hs : List ExceptHandler} {ks : List Cla} {pos : Pos} {tb : WX → TS} {W0 : WX}
theorem ps_try_clauses (top : X.stack = X.env :: X.outer) (fr : X.env.frame = some X.env.locals) (nd : X.N.Nodup) (C : Clauses X (h1 :: hs) ks) (tk : Takes X W0)
    (hb : ∀ (W : WX) (pn : List (Addr × Obj)) (xe : Value → Shared → Prop), Takes (X.tr pn xe) W → PassesOwn (model X.prog X.w) X.A X.env xe → PSs (X.tr pn xe) body (tb W)) :
    PS X (.Try body (h1 :: hs) [] [] pos) (fun D σ H => tb (wClas X.K W0 D ks) D σ H) := by
  refine ⟨fun pins s σ H D I q0 => ?_⟩
  have ok := I.ok
  have frames : X.A.frames = some (X.env :: X.outer) := ok.frames.trans (by rw [top])
  let xe1 : Value → Shared → Prop := fun e s1 => wpAny (model X.prog X.w) X.A (noteFrame e X.env) (fun _ s2 => wpAny (model X.prog X.w) X.A (setFlight e none) (fun _ s3 => wpAny (model X.prog X.w) X.A (handleBy e X.env (h1 :: hs)) (SP X pins D) X.xe s3) X.xe s2) X.xe s1
  have takes : Takes (X.tr (X.pn ++ pins) xe1) (wClas X.K W0 D ks) := by
    rintro u s' ⟨a, B, sI, pins', σ', H', cls, d, rfl, J', nb, up, sky, na, os, ag, w⟩
    have J : Inv X pins σ' H' sI := J'.ofTry ok
    have sky' : Sky B (X.env :: X.outer) a (Zc cls d) X.env.locals s'.heap := by rw [← top]; exact sky
    refine Sky.land Zc.steady frames fr sky' fun h3 fl3 up3 => ?_
    refine clauses_run top fr nd tk J na (fun h4 fl4 up4 => J.landed nb fl4.1 ((up.trans up3).trans up4) os ag) (fun w0 h4 held up4 => ?_) fl3 C w
    exact tk _ _ ⟨a, B, sI, pins, σ', H', cls, d, rfl, J, nb, (up.trans up3).trans up4, .inr (.inr (by rw [top]; exact held)), na, os, ag, w0⟩
  refine wpAny_Try_except (wpAny_mono ((hb _ (X.pn ++ pins) xe1 takes PassesOwn.looking).run [] s σ H D (I.toTry _) q0) ?_ fun e s1 he => he)
  rintro f s1 hsp
  cases f with
  | next =>
    obtain ⟨τ, G, J, q⟩ := hsp
    exact wpAny_execs_nil ⟨τ, G, J.ofTry ok, q⟩
  | ret u =>
    obtain ⟨v, τ, G, J, r, q⟩ := hsp
    exact ⟨v, τ, G, J.ofTry ok, r, q⟩
  | _ =>
    obtain ⟨τ, G, J, q⟩ := hsp
    exact ⟨τ, G, J.ofTry ok, q⟩
end
section
variable {X : Cx} {body : List Stmt} {pos : Pos} {tb : WX → TS} {W0 : WX} {x1 n1 x2 n2 x3 n3 : Str} {c1 c2 c3 : Value} {i1 i2 i3 : Nat} {b1 b2 b3 : Stmt} {r1 r2 r3 : List Stmt} {p1 p2 p3 q1 q2 q3 : Pos} {t1 t2 t3 : Addr → Value → Option Addr → TS}
theorem ps_try_as2 (top : X.stack = X.env :: X.outer) (fr : X.env.frame = some X.env.locals) (nd : X.N.Nodup) (a1 : X.N[i1]? = some n1) (a2 : X.N[i2]? = some n2) (l1 : X.env.kindOf n1 = some .local) (l2 : X.env.kindOf n2 = some .local) (m1 : Names X x1 c1) (m2 : Names X x2 c2) (tk : Takes X W0)
    (hb : ∀ (W : WX) (pn : List (Addr × Obj)) (xe : Value → Shared → Prop), Takes (X.tr pn xe) W → PassesOwn (model X.prog X.w) X.A X.env xe → PSs (X.tr pn xe) body (tb W))
    (s1 : ∀ (a : Addr) (oe : Obj) (cls : Value) (d : Option Addr) (pn : List (Addr × Obj)), Zc cls d oe → (∃ vs, oe.data = .fields vs) → PSs (X.suite a ((a, oe) :: pn)) (b1 :: r1) (t1 a cls d))
    (s2 : ∀ (a : Addr) (oe : Obj) (cls : Value) (d : Option Addr) (pn : List (Addr × Obj)), Zc cls d oe → (∃ vs, oe.data = .fields vs) → PSs (X.suite a ((a, oe) :: pn)) (b2 :: r2) (t2 a cls d)) :
    PS X (.Try body [.ExceptHandler (some (.Name x1 p1)) (some n1) (b1 :: r1) q1, .ExceptHandler (some (.Name x2 p2)) (some n2) (b2 :: r2) q2] [] [] pos) (fun D σ H => tb (wClas X.K W0 D [⟨c1, i1, t1⟩, ⟨c2, i2, t2⟩]) D σ H) :=
  ps_try_clauses top fr nd (.cons m1 a1 l1 s1 (.cons m2 a2 l2 s2 .nil)) tk hb
theorem ps_try_as3 (top : X.stack = X.env :: X.outer) (fr : X.env.frame = some X.env.locals) (nd : X.N.Nodup) (a1 : X.N[i1]? = some n1) (a2 : X.N[i2]? = some n2) (a3 : X.N[i3]? = some n3) (l1 : X.env.kindOf n1 = some .local) (l2 : X.env.kindOf n2 = some .local) (l3 : X.env.kindOf n3 = some .local)
    (m1 : Names X x1 c1) (m2 : Names X x2 c2) (m3 : Names X x3 c3) (tk : Takes X W0)
    (hb : ∀ (W : WX) (pn : List (Addr × Obj)) (xe : Value → Shared → Prop), Takes (X.tr pn xe) W → PassesOwn (model X.prog X.w) X.A X.env xe → PSs (X.tr pn xe) body (tb W))
    (s1 : ∀ (a : Addr) (oe : Obj) (cls : Value) (d : Option Addr) (pn : List (Addr × Obj)), Zc cls d oe → (∃ vs, oe.data = .fields vs) → PSs (X.suite a ((a, oe) :: pn)) (b1 :: r1) (t1 a cls d))
    (s2 : ∀ (a : Addr) (oe : Obj) (cls : Value) (d : Option Addr) (pn : List (Addr × Obj)), Zc cls d oe → (∃ vs, oe.data = .fields vs) → PSs (X.suite a ((a, oe) :: pn)) (b2 :: r2) (t2 a cls d))
    (s3 : ∀ (a : Addr) (oe : Obj) (cls : Value) (d : Option Addr) (pn : List (Addr × Obj)), Zc cls d oe → (∃ vs, oe.data = .fields vs) → PSs (X.suite a ((a, oe) :: pn)) (b3 :: r3) (t3 a cls d)) :
    PS X (.Try body [.ExceptHandler (some (.Name x1 p1)) (some n1) (b1 :: r1) q1, .ExceptHandler (some (.Name x2 p2)) (some n2) (b2 :: r2) q2, .ExceptHandler (some (.Name x3 p3)) (some n3) (b3 :: r3) q3] [] [] pos) (fun D σ H => tb (wClas X.K W0 D [⟨c1, i1, t1⟩, ⟨c2, i2, t2⟩, ⟨c3, i3, t3⟩]) D σ H) :=
  ps_try_clauses top fr nd (.cons m1 a1 l1 s1 (.cons m2 a2 l2 s2 (.cons m3 a3 l3 s3 .nil))) tk hb
end
end My

set_option Elab.async false
set_option linter.all false
set_option maxRecDepth 100000
set_option maxHeartbeats 4000000
/-! ### d.values() as a value, list(d.values()) -/
namespace My
open PySem L2 PySem.W
/-- at q: the view of the values of the dict at d -/
def viewO (q d : Addr) : HO := .ext fun h => h.get? q = some ({ cls := .type "dict_values", data := .fields #[.ref d] } : Obj)
theorem view_ok {P : Program} {w : World} {H : Hp} {h : Heap} {q d : Addr} (e : h.get? q = some ({ cls := .type "dict_values", data := .fields #[.ref d] } : Obj)) : ObjOk P w H h q (viewO q d) := ⟨e, ⟨_, e⟩, fun _ _ z k => k _ z⟩
theorem view_at {P : Program} {w : World} {H : Hp} {h : Heap} {q d : Addr} (ok : HOk P w H h) (e : H q = some (viewO q d)) : h.get? q = some ({ cls := .type "dict_values", data := .fields #[.ref d] } : Obj) := by
  have x : ObjOk P w H h q (.ext fun h => h.get? q = some ({ cls := .type "dict_values", data := .fields #[.ref d] } : Obj)) := ok q _ e
  exact x.1
def tVals (td : TE) : TE := fun σ H Q => td σ H fun x H1 => ∃ (a : Addr) (kvs : List (Key × V)), x = .ref a ∧ H1 a = some (.dK kvs) ∧ ∀ q, H1 q = none → Q (.ref q) (upd H1 q (viewO q a))
def rListV : List V → Hp → VK → Prop := fun xs H Q => ∃ (q a : Addr) (kvs : List (Key × V)), xs = [.ref q] ∧ H q = some (viewO q a) ∧ H a = some (.dK kvs) ∧ ∀ p, H p = none → Q (.ref p) (upd H p (.lst (kvs.map fun kv => kv.2)))
theorem vals_of : ∀ {kvs : List (Key × V)} {vs : List (Key × Value)} {us : List Value}, KV kvs vs → us.length = vs.length → (∀ (j : Nat) (v : Value), us[j]? = some v → ∃ k, vs[j]? = some (k, v)) → Vals (kvs.map fun kv => kv.2) us
  | [], [], [], _, _, _ => .nil
  | p :: r, q :: vs, u :: us, h, hl, e => by
    cases h with
    | cons h1 h2 =>
      obtain ⟨k, e1⟩ := e 0 u rfl
      have e1' : q = (k, u) := Option.some.inj e1
      subst e1'
      exact .cons h1.2 (vals_of h2 (by simpa using hl) fun j v z => e (j + 1) v z)
  | [], _ :: _, _, h, _, _ => by cases h
  | _ :: _, [], _, h, _, _ => by cases h
  | [], [], _ :: _, _, hl, _ => by cases hl
  | _ :: _, _ :: _, [], _, hl, _ => by cases hl
section
variable {X : Cx} {o : Expr} {td : TE} {apos cpos : Pos}
theorem pe_values (he : PE X o td) (hbase : attributeBase o "values" X.env (eval o X.env) = eval o X.env := by rfl) (hline : (apos.endLine == cpos.line) = true := by rfl) : PE X (.Call (.Attribute o "values" apos) [] [] cpos) (tVals td) := by
  refine ⟨fun pins s σ H Q I h => ?_⟩
  refine wpAny_Call_method (T := "dict") (id := "dict.values") hbase rfl hline F.plainAttrs_dict F.slot_dict_values F.type_dict_values (thn (he.run pins s σ H _ I h) fun u s1 ⟨x, H1, I1, rx, d, kvs, ex, hd, q⟩ => ?_)
  subst ex
  cases (show u = Value.ref d from rx)
  obtain ⟨_, hs, vs, rel, dof⟩ := dk_of I1.hok hd
  refine ⟨dof.typeIs, dof.mapOf.noDict, ?_⟩
  have got := Heap.get?_push_size s1.heap (o := ({ cls := .type "dict_values", data := .fields #[.ref d] } : Obj)) rfl
  have J : Inv X pins σ (upd H1 s1.heap.objs.size (viewO s1.heap.objs.size d)) { s1 with heap := s1.heap.push { cls := .type "dict_values", data := .fields #[.ref d] } } := I1.laid (t' := s1.toks) (fun b ob q => Heap.get?_push_of_some _ q) (Nat.le_refl _) (view_ok got)
  exact method_meetsIn F.slot_dict_values F.entry_dict_values rfl (PySem.evalArgs_none ⟨rfl, dof.typeIs, F.args_dict_values_1 _, _, meets_dict_values (mixKind X.prog X.w) d hs, ⟨vs, dof⟩, ⟨.ref s1.heap.objs.size, _, J, rfl, q _ (I1.hok.fresh (Nat.le_refl _))⟩⟩)
theorem call_listV (hcalm : X.calm = true) : CallR X (.type "list") rListV := by
  intro pins s σ H xs us Q I r h
  obtain ⟨v, a, kvs, rfl, hv, ha, q⟩ := h
  obtain ⟨u, rfl, rx⟩ := vals1 r
  cases (show u = Value.ref v from rx)
  obtain ⟨z, hs, vs, rel, dof⟩ := dk_of I.hok ha
  obtain ⟨es, ep, raw, sz, each⟩ := dof.raw
  have hl := KV.length rel
  refine PySem.W.kdl_call (KdlSrc.rawValues (r := v) (d := a) (es := es) (ep := ep)) (I.ok.hd hcalm) ⟨⟨_, view_at I.hok hv, rfl, rfl⟩, raw⟩ (by omega) fun h' tk acc c' hk hD hacc => ?_
  have av : Vals (kvs.map fun kv => kv.2) acc.toList := vals_of rel (by rw [Array.length_toList, hacc.1, sz]) fun j u ej => by
    rw [Array.getElem?_toList] at ej
    obtain ⟨hi, rfl⟩ := hacc.2 j u ej
    have hj : j < vs.length := by omega
    have e1 : vs[j]? = some (vs[j].1, vs[j].2) := List.getElem?_eq_getElem hj
    have e2 := (each j hi _ _ e1).2
    exact ⟨vs[j].1, by rw [e1, e2]⟩
  refine ⟨.ref s.heap.objs.size, upd H s.heap.objs.size (.lst (kvs.map fun kv => kv.2)), I.laid (t' := tk) hk (Nat.le_refl _) ?_, rfl, q _ (I.hok.fresh (Nat.le_refl _))⟩
  exact (show ObjOk X.prog X.w _ _ _ (.lst _) from ⟨by rw [List.length_map]; exact z, acc.toList, c', av, by rw [Array.toArray_toList]; exact hD⟩)
end
end My

set_option Elab.async false
set_option linter.all false
set_option maxRecDepth 100000
/-! ### raised out of a walk of a dict: behind it the dict stands as before -/
namespace My
open PySem L2
/-- the same wish, asked where the walked dict is free again -/
def WLock (X : Cx) (W : WX) : WX := fun cls dx σ H => ∃ (d : Addr) (u : HO) (od : Obj), H d = some (.frz od u) ∧ (∀ o v, X.H_0 d ≠ some (.frz o v)) ∧ W cls dx σ (upd H d u)
theorem takes_lock {X : Cx} {W : WX} (tk : Takes X W) : Takes X (WLock X W) := by
  rintro e s' ⟨a, B, sI, pins, σ, H, cls, dx, rfl, I, nb, up, sky, na, os, ag, d, u, od, hd, nf, w⟩
  have ad : a ≠ d := fun z => by rw [z, hd] at na; cases na
  exact tk _ _ ⟨a, B, sI, pins, σ, upd H d u, cls, dx, rfl, I.unlock hd nf, nb, up, sky, by rw [upd_ne ad]; exact na, os, ag, w⟩
end My

set_option Elab.async false
set_option linter.all false
set_option maxRecDepth 100000
set_option maxHeartbeats 4000000
/-! ### a dict comprehension over any walk -/
namespace My
open PySem L2
theorem dc_it {J : It} {n : Nat} {G : Hp → Prop} {Y : Nat → Hp → V → Hp → Prop} (wk : Walk J n G Y) {g : TG} {tt : TT} {tk tv : TE} {vs : List Nat} {σ : L2.St} {H1 : Hp} {D : Addr} {Qd : Hp → Prop} (Inv : Nat → Hp → Prop) (begins : Inv 0 (upd H1 D (.dK []))) (may : ∀ i H, i ≤ n → Inv i H → G H)
    (turn : ∀ i x H H', i < n → Inv i H → Y i H x H' → g x (wipe σ vs) H' fun σ2 H2 => wipe σ2 vs = wipe σ vs ∧ tt σ2 H2 fun b H3 =>
      if b = true then tk σ2 H3 fun y H4 => tv σ2 H4 fun z H5 => ∃ kvs k, y = kV k ∧ H5 D = some (.dK kvs) ∧ kvs.length < sizeLine ∧ Inv (i + 1) (upd H5 D (.dK (putK kvs k z))) else Inv (i + 1) H3) (ends : ∀ H, Inv n H → Qd H) :
    ∃ W : Nat → Nat → Hp → Prop, (∃ m, W 0 m (upd H1 D (.dK []))) ∧ ∀ i m H, W i m H →
      (J.stop i H ∧ Qd H) ∨ (J.go i H ∧ ∃ Nx : Hp → Prop, (∀ H', Nx H' → ∃ m', m' < m ∧ W (i + 1) m' H') ∧ ∀ x H', J.yld i H x H' → g x (wipe σ vs) H' fun σ2 H2 => wipe σ2 vs = wipe σ vs ∧ tt σ2 H2 fun b H3 =>
        if b = true then tk σ2 H3 fun y H4 => tv σ2 H4 fun z H5 => ∃ kvs k, y = kV k ∧ H5 D = some (.dK kvs) ∧ kvs.length < sizeLine ∧ Nx (upd H5 D (.dK (putK kvs k z))) else Nx H3) := by
  refine ⟨fun i m H => m + i = n ∧ Inv i H, ⟨n, rfl, begins⟩, fun i m H h => ?_⟩
  obtain ⟨e, p⟩ := h
  have ok := may i H (by omega) p
  rcases Nat.lt_or_ge i n with lt | ge
  · exact .inr ⟨wk.goes i H lt ok, Inv (i + 1), fun H' p' => ⟨m - 1, by omega, by omega, p'⟩, fun x H' y => turn i x H H' lt p (wk.yields i H x H' lt ok y)⟩
  · have z : i = n := by omega
    subst z
    exact .inl ⟨wk.stops H ok, ends H p⟩
end My

set_option Elab.async false
set_option linter.all false
set_option maxRecDepth 100000
set_option maxHeartbeats 4000000
/-! ### a list comprehension of two clauses -/
namespace My
open PySem L2
/-- the inner clause: it adds to the list at D; Nx behind it -/
def tLcIn (wi : TI) (g : TG) (tt : TT) (te : TE) (vs : List Nat) (D : Addr) (σ : L2.St) (H : Hp) (Nx : Hp → Prop) : Prop := wi σ H fun J H1 => ∃ W : Nat → Nat → Hp → Prop, (∃ m, W 0 m H1) ∧ ∀ i m H, W i m H →
  (J.stop i H ∧ Nx H) ∨ (J.go i H ∧ ∃ N2 : Hp → Prop, (∀ H', N2 H' → ∃ m', m' < m ∧ W (i + 1) m' H') ∧ ∀ x H', J.yld i H x H' → g x (wipe σ vs) H' fun σ2 H2 => wipe σ2 vs = wipe σ vs ∧ tt σ2 H2 fun b H3 =>
    if b = true then te σ2 H3 fun y H4 => ∃ acc, H4 D = some (.lst acc) ∧ acc.length < sizeLine ∧ N2 (upd H4 D (.lst (acc ++ [y]))) else N2 H3)
def tLc2 (wi1 : TI) (g1 : TG) (tt1 : TT) (wi2 : TI) (g2 : TG) (tt2 : TT) (te : TE) (vs vs2 : List Nat) : TE := fun σ H Q => wi1 σ H fun J H1 => ∀ D, H1 D = none → ∃ W : Nat → Nat → Hp → Prop, (∃ m, W 0 m (upd H1 D (.lst []))) ∧ ∀ i m H, W i m H →
  (J.stop i H ∧ Q (.ref D) H) ∨ (J.go i H ∧ ∃ Nx : Hp → Prop, (∀ H', Nx H' → ∃ m', m' < m ∧ W (i + 1) m' H') ∧ ∀ x H', J.yld i H x H' → g1 x (wipe σ vs) H' fun σ2 H2 => wipe σ2 vs = wipe σ vs ∧ tt1 σ2 H2 fun b H3 =>
    if b = true then tLcIn wi2 g2 tt2 te vs2 D σ2 H3 Nx else Nx H3)
section
variable {X : Cx} {elt t1 it1 t2 it2 : Expr} {ifs1 ifs2 : List Expr} {scope : Scope} {pos : Pos} {wi1 wi2 : TI} {g1 g2 : TG} {tt1 tt2 : TT} {te : TE} {vs vs2 : List Nat}
theorem lc2_in (hx : X.xe = fun _ _ => False) (hc : X.calm = true) (hi : PI X t2 it2 wi2) (pg : PG X t2 g2) (pt : PTs X ifs2 tt2) (pe : PE X elt te) {pins : List (Addr × Obj)} {s : Shared} {σ : L2.St} {H : Hp} {D : Addr} {Nx : Hp → Prop} (I : Inv X pins σ H s) (h : tLcIn wi2 g2 tt2 te vs2 D σ H Nx) :
    wpAny (model X.prog X.w) X.A (eval it2 X.env) (fun xv s1 => wpAny (model X.prog X.w) X.A (pyIter xv) (fun itv s2 => ∀ (R : Result → Shared → Prop), (∀ s' H', Inv X pins (wipe σ vs2) H' s' → Nx H' → R (.ok .next) s') →
      codeAny (model X.prog X.w) X.A (.compStart (.ListComp elt [⟨t1, it1, ifs1, 0⟩, ⟨t2, it2, ifs2, 0⟩] scope pos) 1 itv (.ref D) X.env) R s2) (fun _ _ => False) s1) (fun _ _ => False) s := by
  have key := hi.run pins s σ H _ I h
  rw [hx] at key
  refine wpAny_mono key (fun xv s1 h1 => wpAny_mono h1 (fun itv s2 h2 => ?_) fun _ _ z => z) fun _ _ z => z
  obtain ⟨it, fp, tn, J, H2, e, I2, T, st2, f2, W, ⟨m0, w0⟩, turn⟩ := h2
  subst e
  intro R fin
  have stat : ∀ {H' : Hp}, (∀ b ∈ fp, H' b = none) → ∀ b ∈ fp, FpOk X pins H' b := fun hn b hb => ⟨hn b hb, (f2 b hb).2⟩
  have I2w : Inv X pins (wipe σ vs2) H2 s2 := I2.weak (wipe_length ..) (fun j v e => (wipe_some e).1)
  have loop : codeAny (model X.prog X.w) X.A (.compLoop (.ListComp elt [⟨t1, it1, ifs1, 0⟩, ⟨t2, it2, ifs2, 0⟩] scope pos) 1 (.ref it) (.ref D) X.env) R s2 := by
    refine codeAny_loop rfl (fun n s' => ∃ i H', Inv X pins (wipe σ vs2) H' s' ∧ tn i s'.heap ∧ (∀ b ∈ fp, H' b = none) ∧ W i n H') ?_ m0 ⟨0, H2, I2w, st2, fun b hb => (f2 b hb).1, w0⟩
    rintro n s3 ⟨i, H3, I3, st3, fr3, w3⟩
    show wpAny _ X.A ((compTurn (.ListComp elt [⟨t1, it1, ifs1, 0⟩, ⟨t2, it2, ifs2, 0⟩] scope pos) 1 (.ref it) (.ref D) X.env).onRaise (fun x => do noteFrame x X.env; theTreesLotGoes x)) _ _ s3
    refine wpAny_noted ?_
    rw [compTurn_list2_in]
    refine wpAny_bind (wpAny_standAt ?_)
    rcases turn i n H3 w3 with ⟨stop, qn⟩ | ⟨go, N2, hN, step⟩
    · refine wpAny_bind (thnF (T.done X rfl rfl rfl hc i pins s3 _ H3 (fun _ _ => False) I3 (stat fr3) st3 stop) fun r s4 hr => ?_)
      obtain ⟨hr, I4⟩ := hr
      subst hr
      exact wpAny_pure (fin s4 H3 I4 qn)
    · refine wpAny_bind (thnF (T.item X rfl rfl rfl hc i pins s3 _ H3 (fun _ _ => False) I3 (stat fr3) st3 go) fun r s4 hr => ?_)
      obtain ⟨u, hr, h4⟩ := hr
      subst hr
      refine wpAny_bind (thnF h4 fun _ s5 h5 => ?_)
      obtain ⟨x, H5, I5, r5, y5, st5, fr5⟩ := h5
      have I5' := I5.pinned (stat fr5) (T.obj _ _ st5)
      have kg := pg.run _ s5 _ H5 x u _ I5' r5 (step x H5 y5)
      rw [hx] at kg
      refine wpAny_bind (thnF kg fun _ s6 h6 => ?_)
      obtain ⟨σ6, H6, I6, hw6, q6⟩ := h6
      have kt := pt.run _ s6 σ6 H6 _ I6 q6
      rw [hx] at kt
      refine wpAny_bind (thnF kt fun b s7 h7 => ?_)
      obtain ⟨H7, I7, q7⟩ := h7
      have again : ∀ {s' : Shared} {H' : Hp}, Inv X (pins ++ pinsAt fp s5.heap) σ6 H' s' → N2 H' → ∃ m, m < n ∧ ∃ i H', Inv X pins (wipe σ vs2) H' s' ∧ tn i s'.heap ∧ (∀ b ∈ fp, H' b = none) ∧ W i m H' := fun {s' H'} I' n7 => by
        obtain ⟨m', hm, w7⟩ := hN H' n7
        have hl : (wipe σ vs2).length = σ6.length := by rw [← hw6, wipe_length]
        refine ⟨m', hm, i + 1, H', (I'.unpinned (pins := pins)).weak hl (fun j v e => ?_), T.keep _ _ _ st5 fun b hb o e => (I'.pin (b, o) (List.mem_append_right _ (List.mem_append_right _ (mem_pinsAt hb e)))).1, fun b hb => ?_, w7⟩
        · rw [← hw6] at e
          exact (wipe_some e).1
        · obtain ⟨o, e, d⟩ := T.obj _ _ st5 b hb
          exact (I'.pin (b, o) (List.mem_append_right _ (List.mem_append_right _ (mem_pinsAt hb e)))).2.1
      cases b with
      | false =>
        simp only [Bool.false_eq_true, if_false] at q7 ⊢
        exact wpAny_pure ⟨rfl, again I7 q7⟩
      | true =>
        simp only [if_true] at q7 ⊢
        have ke := pe.run _ s7 σ6 H7 _ I7 q7
        rw [hx] at ke
        refine wpAny_bind (wpAny_bind (thnF ke fun z s8 h8 => ?_))
        obtain ⟨yv, H8, I8, r8, acc, hD8, hz8, nx⟩ := h8
        exact wpAny_bind (app_ok (X := X) I8 hD8 hz8 r8 fun s9 I9 => wpAny_pure (wpAny_pure ⟨rfl, again I9 nx⟩))
  exact compStart_list2_in loop (T.self X.A 0 _ _ _ st2 loop)
theorem lc2_core {own : List (Str × Nat)} (hc : X.calm = true) (hN : X.N.Nodup) (first : PI X t1 it1 wi1) (ok : BlkOk X.N X.env.scope scope own) (sub : ∀ j ∈ vs2, j ∈ own.map (·.2))
    (P1 : ∀ (s : Shared) (H : Hp) (C : Addr) (cl : List (Str × Addr)) (fp : List Addr), PG (X.blk s H scope (compEnvC scope cl C X.env) fp) t1 g1) (C1 : ∀ (s : Shared) (H : Hp) (C : Addr) (cl : List (Str × Addr)) (fp : List Addr), PTs (X.blk s H scope (compEnvC scope cl C X.env) fp) ifs1 tt1)
    (I2 : ∀ (s : Shared) (H : Hp) (C : Addr) (cl : List (Str × Addr)) (fp : List Addr), PI (X.blk s H scope (compEnvC scope cl C X.env) fp) t2 it2 wi2)
    (P2 : ∀ (s : Shared) (H : Hp) (C : Addr) (cl : List (Str × Addr)) (fp : List Addr), PG (X.blk s H scope (compEnvC scope cl C X.env) fp) t2 g2) (C2 : ∀ (s : Shared) (H : Hp) (C : Addr) (cl : List (Str × Addr)) (fp : List Addr), PTs (X.blk s H scope (compEnvC scope cl C X.env) fp) ifs2 tt2)
    (el : ∀ (s : Shared) (H : Hp) (C : Addr) (cl : List (Str × Addr)) (fp : List Addr), PE (X.blk s H scope (compEnvC scope cl C X.env) fp) elt te)
    (h1 : ∀ x, foldedSetIterable it1 X.env x = pure x ) (h2 : ∀ (C : Addr) (cl : List (Str × Addr)) x, foldedSetIterable it2 (compEnvC scope cl C X.env) x = pure x ) {pins : List (Addr × Obj)} {s : Shared} {σ : L2.St} {H : Hp} {Q : VK} {use : Option (Value → Sem Unit)} {Qf : Value → Shared → Prop} (I : Inv X pins σ H s) (rd : tLc2 wi1 g1 tt1 wi2 g2 tt2 te (own.map (·.2)) vs2 σ H Q)
    (behind : ∀ D C s' m H', Inv X pins σ H' s' → Q (.ref D) H' → s'.heap.Ns C m → FpOk X pins H' C → compPost (model X.prog X.w) X.A X.xe use Qf (.ref D) C (.ok .next) s') :
    wpAny (model X.prog X.w) X.A (comprehension (.ListComp elt [⟨t1, it1, ifs1, 0⟩, ⟨t2, it2, ifs2, 0⟩] scope pos) scope X.env (firstIterPos [⟨t1, it1, ifs1, 0⟩, ⟨t2, it2, ifs2, 0⟩] pos) (newList []) false (eval it1 X.env) use) Qf X.xe s := by
  have closed : ∀ y ∈ scope.names, y.2 = .free → ∃ c, X.env.cells.lookup y.1 = some c := fun y hy e =>
    (ok.free y hy e).elim (fun k => I.ok.has _ (.inl k)) (fun k => I.ok.has _ (.inr k))
  refine wpAny_comprehension_free (use := use) rfl h1 (closure_ok closed) ok.kind (fun y hy e => by rw [ok.uniq y hy, e]) (thn (first.run pins s σ H _ I rd) fun xv sA hA => thn hA fun itv sB hB => ?_)
  obtain ⟨it, fp, tn, J, HB, rfl, IB, T, stB, fB, q⟩ := hB
  refine wpAny_newObj_type (newEnv_comp ?_) (by show 0 ≤ sizeLine; decide)
  generalize hD : sB.heap.objs.size = D
  have noD : HB D = none := IB.hok.fresh (Nat.le_of_eq hD)
  obtain ⟨W, ⟨m0, w0⟩, turn⟩ := q D noD
  generalize hs3 : ({ sB with heap := sB.heap.push { cls := .type "list", data := .seq ([] : List Value).toArray } } : Shared) = s3
  have I3 : Inv X pins σ (upd HB D (.lst [])) s3 := by
    rw [← hs3]
    exact IB.laid (t' := sB.toks) (fun b o e => Heap.get?_push_of_some _ e) (Nat.le_of_eq hD) ⟨Nat.zero_le _, [], 0, .nil, by rw [← hD]; exact Heap.get?_push_size _ rfl⟩
  have h3 : s3.heap = sB.heap.push { cls := .type "list", data := .seq ([] : List Value).toArray } := by rw [← hs3]
  have f3 : ∀ b ∈ fp, FpOk X pins (upd HB D (.lst [])) b ∧ b < s3.heap.objs.size := fun b hb => by
    obtain ⟨o, e, _⟩ := T.obj _ _ stB b hb
    have lt : b < sB.heap.objs.size := Heap.lt_size e
    have ne : b ≠ D := by rw [← hD]; exact Nat.ne_of_lt lt
    exact ⟨⟨by rw [upd_ne ne]; exact (fB b hb).1, (fB b hb).2⟩, by rw [h3, Heap.size_push]; exact Nat.lt_succ_of_lt lt⟩
  have st3 : tn 0 s3.heap := T.keep _ _ _ stB fun b _ o e => by rw [h3]; exact Heap.get?_push_of_some _ e
  have I4 := block_start I3 ok hN f3
  have p1 := P1 s3 (upd HB D (.lst [])) s3.heap.objs.size (cellsFrom (s3.heap.objs.size + 1) scope.names (cloFrom X.env.cells scope.names [])) fp
  have c1 := C1 s3 (upd HB D (.lst [])) s3.heap.objs.size (cellsFrom (s3.heap.objs.size + 1) scope.names (cloFrom X.env.cells scope.names [])) fp
  have i2 := I2 s3 (upd HB D (.lst [])) s3.heap.objs.size (cellsFrom (s3.heap.objs.size + 1) scope.names (cloFrom X.env.cells scope.names [])) fp
  have p2 := P2 s3 (upd HB D (.lst [])) s3.heap.objs.size (cellsFrom (s3.heap.objs.size + 1) scope.names (cloFrom X.env.cells scope.names [])) fp
  have c2 := C2 s3 (upd HB D (.lst [])) s3.heap.objs.size (cellsFrom (s3.heap.objs.size + 1) scope.names (cloFrom X.env.cells scope.names [])) fp
  have e2 := el s3 (upd HB D (.lst [])) s3.heap.objs.size (cellsFrom (s3.heap.objs.size + 1) scope.names (cloFrom X.env.cells scope.names [])) fp
  have fold2 := h2 s3.heap.objs.size (cellsFrom (s3.heap.objs.size + 1) scope.names (cloFrom X.env.cells scope.names []))
  show codeAny _ _ (.compStart (.ListComp elt [⟨t1, it1, ifs1, 0⟩, ⟨t2, it2, ifs2, 0⟩] scope pos) 0 (.ref it) (.ref D) (compEnvC scope (cellsFrom (s3.heap.objs.size + 1) scope.names (cloFrom X.env.cells scope.names [])) s3.heap.objs.size X.env)) (compPost (model X.prog X.w) X.A X.xe use Qf (.ref D) s3.heap.objs.size) { s3 with heap := pushCells (s3.heap.push { cls := .type "dict", data := .dict #[] }) scope.names }
  have nfp : ∀ b ∈ fp, (upd HB D (.lst [])) b = none := fun b hb => (f3 b hb).1.1
  generalize hce : compEnvC scope (cellsFrom (s3.heap.objs.size + 1) scope.names (cloFrom X.env.cells scope.names [])) s3.heap.objs.size X.env = ce at I4 p1 c1 i2 p2 c2 e2 fold2 ⊢
  have cL : ce.locals = s3.heap.objs.size := by subst hce; rfl
  generalize hH3 : upd HB D (.lst []) = H3 at I3 I4 p1 c1 i2 p2 c2 e2 w0 nfp f3
  generalize hs4 : ({ s3 with heap := pushCells (s3.heap.push { cls := .type "dict", data := .dict #[] }) scope.names } : Shared) = s4 at I4 ⊢
  have st4 : tn 0 s4.heap := T.keep _ _ _ st3 fun b _ o e => by rw [← hs4]; exact pushCells_keeps _ _ _ _ (Heap.get?_push_of_some _ e)
  have stat : ∀ {σ' : L2.St} {H' : Hp} {s' : Shared}, Inv (X.blk s3 H3 scope ce fp) [] σ' H' s' → (∀ b ∈ fp, H' b = none) → ∀ b ∈ fp, FpOk (X.blk s3 H3 scope ce fp) [] H' b := fun {σ' H' s'} I' hn b hb =>
    ⟨hn b hb, (I'.ok.exf b hb).1, I'.ok.exfs b hb, .inl hb, fun x c e => (I'.ok.exf b hb).2 x c e, fun p hp => absurd (show p ∈ ([] : List (Addr × Obj)) ++ [] from hp) (by simp)⟩
  have loop : codeAny (model X.prog X.w) X.A (.compLoop (.ListComp elt [⟨t1, it1, ifs1, 0⟩, ⟨t2, it2, ifs2, 0⟩] scope pos) 0 (.ref it) (.ref D) ce) (compPost (model X.prog X.w) X.A X.xe use Qf (.ref D) s3.heap.objs.size) s4 := by
    refine codeAny_loop rfl (fun n s' => ∃ i H', Inv (X.blk s3 H3 scope ce fp) [] (wipe σ (own.map (·.2))) H' s' ∧ tn i s'.heap ∧ (∀ b ∈ fp, H' b = none) ∧ W i n H') ?_ m0 ⟨0, H3, I4, st4, nfp, w0⟩
    rintro n s5 ⟨i, H5, I5, st5, n5, w5⟩
    show wpAny _ X.A ((compTurn (.ListComp elt [⟨t1, it1, ifs1, 0⟩, ⟨t2, it2, ifs2, 0⟩] scope pos) 0 (.ref it) (.ref D) ce).onRaise (fun x => do noteFrame x ce; theTreesLotGoes x)) _ _ s5
    refine wpAny_noted ?_
    rw [compTurn_list2_out]
    refine wpAny_bind (wpAny_standAt ?_)
    rcases turn i n H5 w5 with ⟨stop, qq⟩ | ⟨go, Nx, hNx, step⟩
    · refine wpAny_bind (thnF (T.done (X.blk s3 H3 scope ce fp) rfl rfl rfl hc i [] s5 _ H5 (fun _ _ => False) I5 (stat I5 n5) st5 stop) fun r s6 hr => ?_)
      obtain ⟨hr, I6⟩ := hr
      subst hr
      refine wpAny_pure ?_
      have I7 : Inv X pins σ H5 s6 := I3.call' (ch := fp) I6.os I6.base I6.hok I6.bare fun b hb => ⟨(f3 b hb).1.2.2.2.1, (f3 b hb).1.2.1, (f3 b hb).1.2.2.2.2.1, (f3 b hb).1.2.2.2.2.2⟩
      have nC : H5 s3.heap.objs.size = none := by
        have z : H5 ce.locals = none := I6.free
        rw [cL] at z
        exact z
      obtain ⟨m, hn, _⟩ := I6.loc
      have hn : s6.heap.Ns ce.locals m := hn
      rw [cL] at hn
      exact behind D s3.heap.objs.size s6 m H5 I7 qq hn (I3.fpOk (Nat.le_refl _) nC)
    · refine wpAny_bind (thnF (T.item (X.blk s3 H3 scope ce fp) rfl rfl rfl hc i [] s5 _ H5 (fun _ _ => False) I5 (stat I5 n5) st5 go) fun r s6 hr => ?_)
      obtain ⟨u, hr, h6⟩ := hr
      subst hr
      refine wpAny_bind (thnF h6 fun _ s7 h7 => ?_)
      obtain ⟨x, H7, I7, r7, y7, st7, n7⟩ := h7
      have I7' := I7.pinned (stat I7 n7) (T.obj _ _ st7)
      refine wpAny_bind (thnF (p1.run _ s7 _ H7 x u _ I7' r7 (step x H7 y7)) fun _ s8 h8 => ?_)
      obtain ⟨σ8, H8, I8, hw8, q8⟩ := h8
      refine wpAny_bind (thnF (c1.run _ s8 σ8 H8 _ I8 q8) fun b s9 h9 => ?_)
      obtain ⟨H9, I9, q9⟩ := h9
      have back : ∀ {s' : Shared} {σ' : L2.St} {H' : Hp}, Inv (X.blk s3 H3 scope ce fp) ([] ++ pinsAt fp s7.heap) σ' H' s' → (wipe σ (own.map (·.2))).length = σ'.length → (∀ (j : Nat) (v : V), (wipe σ (own.map (·.2)))[j]? = some (some v) → σ'[j]? = some (some v)) → Nx H' →
          ∃ m, m < n ∧ ∃ i H', Inv (X.blk s3 H3 scope ce fp) [] (wipe σ (own.map (·.2))) H' s' ∧ tn i s'.heap ∧ (∀ b ∈ fp, H' b = none) ∧ W i m H' := fun {s' σ' H'} I' hl hv nx => by
        obtain ⟨m', hm, w'⟩ := hNx H' nx
        refine ⟨m', hm, i + 1, H', (I'.unpinned (pins := [])).weak hl hv, T.keep _ _ _ st7 fun b hb o e => (I'.pin (b, o) (List.mem_append_right _ (List.mem_append_right _ (mem_pinsAt hb e)))).1, fun b hb => ?_, w'⟩
        obtain ⟨o, e, _⟩ := T.obj _ _ st7 b hb
        exact (I'.pin (b, o) (List.mem_append_right _ (List.mem_append_right _ (mem_pinsAt hb e)))).2.1
      have hl8 : (wipe σ (own.map (·.2))).length = σ8.length := by rw [← hw8, wipe_length]
      cases b with
      | false =>
        simp only [Bool.false_eq_true, if_false] at q9 ⊢
        exact wpAny_pure ⟨rfl, back I9 hl8 (fun j v e => by rw [← hw8] at e; exact (wipe_some e).1) q9⟩
      | true =>
        simp only [if_true] at q9 ⊢
        refine wpAny_bind (thnF (lc2_in (X := X.blk s3 H3 scope ce fp) (t1 := t1) (it1 := it1) (ifs1 := ifs1) (scope := scope) (pos := pos) rfl hc i2 p2 c2 e2 I9 q9) fun xv s10 h10 => ?_)
        refine wpAny_bind (wpAny_standAt (wpAny_bind (wpAny_of_eq (fold2 xv) ?_)))
        refine wpAny_bind (wpAny_holding (thnF h10 fun itv s11 h11 => ?_))
        refine wpAny_bind (wpAny_runOwn ?_)
        refine h11 _ fun s' H' I' nx => ?_
        refine wpAny_pure ⟨rfl, back I' (by rw [wipe_length, wipe_length]; rw [wipe_length] at hl8; exact hl8) (fun j v e => ?_) nx⟩
        rw [← hw8] at e
        have z := wipe_some e
        rw [wipe_out fun hj => z.2 (sub j hj)]
        exact z.1
  exact codeAny_compStart_list loop (T.self X.A 0 _ _ _ st4 loop)
/-- [elt for t1 in it1 if .. for t2 in it2 if ..] -/
theorem pe_lc2 {own : List (Str × Nat)} (hc : X.calm = true) (hN : X.N.Nodup) (first : PI X t1 it1 wi1) (ok : BlkOk X.N X.env.scope scope own) (sub : ∀ j ∈ vs2, j ∈ own.map (·.2))
    (P1 : ∀ (s : Shared) (H : Hp) (C : Addr) (cl : List (Str × Addr)) (fp : List Addr), PG (X.blk s H scope (compEnvC scope cl C X.env) fp) t1 g1) (C1 : ∀ (s : Shared) (H : Hp) (C : Addr) (cl : List (Str × Addr)) (fp : List Addr), PTs (X.blk s H scope (compEnvC scope cl C X.env) fp) ifs1 tt1)
    (I2 : ∀ (s : Shared) (H : Hp) (C : Addr) (cl : List (Str × Addr)) (fp : List Addr), PI (X.blk s H scope (compEnvC scope cl C X.env) fp) t2 it2 wi2)
    (P2 : ∀ (s : Shared) (H : Hp) (C : Addr) (cl : List (Str × Addr)) (fp : List Addr), PG (X.blk s H scope (compEnvC scope cl C X.env) fp) t2 g2) (C2 : ∀ (s : Shared) (H : Hp) (C : Addr) (cl : List (Str × Addr)) (fp : List Addr), PTs (X.blk s H scope (compEnvC scope cl C X.env) fp) ifs2 tt2)
    (el : ∀ (s : Shared) (H : Hp) (C : Addr) (cl : List (Str × Addr)) (fp : List Addr), PE (X.blk s H scope (compEnvC scope cl C X.env) fp) elt te)
    (h1 : ∀ x, foldedSetIterable it1 X.env x = pure x := by intro _; rfl) (h2 : ∀ (C : Addr) (cl : List (Str × Addr)) x, foldedSetIterable it2 (compEnvC scope cl C X.env) x = pure x := by intro _ _ _; rfl) :
    PE X (.ListComp elt [⟨t1, it1, ifs1, 0⟩, ⟨t2, it2, ifs2, 0⟩] scope pos) (tLc2 wi1 g1 tt1 wi2 g2 tt2 te (own.map (·.2)) vs2) := by
  refine ⟨fun pins s σ H Q I rd => ?_⟩
  rw [eval_ListComp]
  refine lc2_core hc hN first ok sub P1 C1 I2 P2 C2 el h1 h2 I rd fun D C s' m H' I' q hn f => ⟨m, hn, fun h'' sb => ?_⟩
  obtain ⟨f0, f1, f2, f3, f4, f5⟩ := f
  exact ⟨.ref D, H', I'.turned (t' := s'.toks) (fun b o hb e => (sb.2 b hb).trans e) f0 f1 f3 f4 f5, rfl, q⟩
/-- name = [..] on one row, the name a local -/
theorem ps_setLc2 {i : Nat} {y : Str} {py spos : Pos} {own : List (Str × Nat)} (hc : X.calm = true) (hN : X.N.Nodup) (hy : X.N[i]? = some y) (hyl : X.env.scope.names.lookup y = some .local)
    (hsw : swapsWith (.ListComp elt [⟨t1, it1, ifs1, 0⟩, ⟨t2, it2, ifs2, 0⟩] scope pos) (some (.Name y py)) spos.line X.env = pure true) (first : PI X t1 it1 wi1) (ok : BlkOk X.N X.env.scope scope own) (sub : ∀ j ∈ vs2, j ∈ own.map (·.2))
    (P1 : ∀ (s : Shared) (H : Hp) (C : Addr) (cl : List (Str × Addr)) (fp : List Addr), PG (X.blk s H scope (compEnvC scope cl C X.env) fp) t1 g1) (C1 : ∀ (s : Shared) (H : Hp) (C : Addr) (cl : List (Str × Addr)) (fp : List Addr), PTs (X.blk s H scope (compEnvC scope cl C X.env) fp) ifs1 tt1)
    (I2 : ∀ (s : Shared) (H : Hp) (C : Addr) (cl : List (Str × Addr)) (fp : List Addr), PI (X.blk s H scope (compEnvC scope cl C X.env) fp) t2 it2 wi2)
    (P2 : ∀ (s : Shared) (H : Hp) (C : Addr) (cl : List (Str × Addr)) (fp : List Addr), PG (X.blk s H scope (compEnvC scope cl C X.env) fp) t2 g2) (C2 : ∀ (s : Shared) (H : Hp) (C : Addr) (cl : List (Str × Addr)) (fp : List Addr), PTs (X.blk s H scope (compEnvC scope cl C X.env) fp) ifs2 tt2)
    (el : ∀ (s : Shared) (H : Hp) (C : Addr) (cl : List (Str × Addr)) (fp : List Addr), PE (X.blk s H scope (compEnvC scope cl C X.env) fp) elt te)
    (h1 : ∀ x, foldedSetIterable it1 X.env x = pure x := by intro _; rfl) (h2 : ∀ (C : Addr) (cl : List (Str × Addr)) x, foldedSetIterable it2 (compEnvC scope cl C X.env) x = pure x := by intro _ _ _; rfl) :
    PS X (.Assign [.Name y py] (.ListComp elt [⟨t1, it1, ifs1, 0⟩, ⟨t2, it2, ifs2, 0⟩] scope pos) spos) (tAsg (tLc2 wi1 g1 tt1 wi2 g2 tt2 te (own.map (·.2)) vs2) (gName i)) := by
  refine ⟨fun pins s σ H D I h => ?_⟩
  rw [exec_Assign_Name_used _ _ _ _ hsw]
  refine wpAny_bind (wpAny_standAt (wpAny_bind ?_))
  show wpAny _ X.A (do let _ ← comprehension (.ListComp elt [⟨t1, it1, ifs1, 0⟩, ⟨t2, it2, ifs2, 0⟩] scope pos) scope X.env (firstIterPos [⟨t1, it1, ifs1, 0⟩, ⟨t2, it2, ifs2, 0⟩] pos) (newList []) false (eval it1 X.env) (some (assign (.Name y py) X.env))) _ _ s
  have h : tLc2 wi1 g1 tt1 wi2 g2 tt2 te (own.map (·.2)) vs2 σ H (fun x H1 => gName i x σ H1 D.nx) := h
  refine wpAny_bind (thn (lc2_core (Qf := fun _ s' => SP X pins D .next s') hc hN first ok sub P1 C1 I2 P2 C2 el h1 h2 I h fun L C s' m H' I' q hn f => ?_) fun _ s' hq => wpAny_pure (wpAny_pure hq))
  show wpAny _ _ (assign (.Name y py) X.env (.ref L)) _ _ _
  refine wpAny_assign_Name (store_ok2 (v := V.ref L) I' hN hy (.inl hyl) rfl (fun s2 J ⟨a, sb, ha⟩ => ?_) (.inr hyl))
  obtain ⟨f0, f1, f2, f3, f4, f5⟩ := f
  have ne : C ≠ a := ha.elim (fun z => by rw [z]; exact f1) fun z e => f4 y a z e.symm
  exact ⟨m, hn.sameBut sb ne, fun h3 sb3 => ⟨_, H', J.turned (t' := s2.toks) (fun b o hb e => (sb3.2 b hb).trans e) f0 f1 f3 f4 f5, q⟩⟩
end
end My

set_option Elab.async false
set_option linter.all false
set_option maxRecDepth 100000
set_option maxHeartbeats 4000000
/-! ### [te for p in range(m) for q in range(n)] -/
namespace My
open PySem L2
theorem it_range {m : Nat} {W0 : Hp → Prop} (Pv : Nat → Hp → Prop) {H : Hp} (h0 : Pv 0 H) {Nx : Hp → Prop} {g : TG} {tt : TT} {te : TE} {vs : List Nat} {σ : L2.St} {D : Addr}
    (step : ∀ i H', i < m → Pv i H' → g (.int (i : Nat)) (wipe σ vs) H' fun σ2 H2 => wipe σ2 vs = wipe σ vs ∧ tt σ2 H2 fun b H3 => if b = true then te σ2 H3 fun y H4 => ∃ acc, H4 D = some (.lst acc) ∧ acc.length < sizeLine ∧ Pv (i + 1) (upd H4 D (.lst (acc ++ [y]))) else Pv (i + 1) H3)
    (fin : ∀ H', Pv m H' → Nx H') : ∃ W : Nat → Nat → Hp → Prop, (∃ k, W 0 k H) ∧ ∀ i k H, W i k H →
  ((Itr 0 m).stop i H ∧ Nx H) ∨ ((Itr 0 m).go i H ∧ ∃ N2 : Hp → Prop, (∀ H', N2 H' → ∃ m', m' < k ∧ W (i + 1) m' H') ∧ ∀ x H', (Itr 0 m).yld i H x H' → g x (wipe σ vs) H' fun σ2 H2 => wipe σ2 vs = wipe σ vs ∧ tt σ2 H2 fun b H3 =>
    if b = true then te σ2 H3 fun y H4 => ∃ acc, H4 D = some (.lst acc) ∧ acc.length < sizeLine ∧ N2 (upd H4 D (.lst (acc ++ [y]))) else N2 H3) := by
  refine ⟨fun i k H => k + i = m ∧ Pv i H, ⟨m, rfl, h0⟩, fun i k H h => ?_⟩
  obtain ⟨e, p⟩ := h
  rcases Nat.lt_or_ge i m with lt | ge
  · refine .inr ⟨lt, Pv (i + 1), fun H' p' => ⟨k - 1, by omega, by omega, p'⟩, fun x H' y => ?_⟩
    obtain ⟨rfl, rfl⟩ := y
    rw [Int.zero_add]
    exact step i H' lt p
  · have z : i = m := by omega
    exact .inl ⟨by subst z; first | rfl | exact Nat.le_refl _, fin H (by rw [← z]; exact p)⟩
theorem lc2Rg {ta tb : TA} {te : TE} {σ : L2.St} {H : Hp} {Q : VK} {p q : Nat} (m n : Nat) (hm : m ≤ 1000) (hn : n ≤ 1000) (Pv : Addr → Nat → Nat → Hp → Prop)
    (ha : ∀ R : List V → Hp → Prop, R [.int (m : Nat)] H → ta σ H R)
    (hb : ∀ (D : Addr) (i : Nat) (H' : Hp) (R : List V → Hp → Prop), H D = none → i < m → Pv D i 0 H' → R [.int (n : Nat)] H' → tb ((wipe σ [p, q]).set p (some (.int (i : Nat)))) H' R)
    (hw1 : ∀ x, wipe ((wipe σ [p, q]).set p (some x)) [p, q] = wipe σ [p, q])
    (hw2 : ∀ x y, wipe ((wipe ((wipe σ [p, q]).set p (some x)) [q]).set q (some y)) [q] = wipe ((wipe σ [p, q]).set p (some x)) [q])
    (h0 : ∀ D, H D = none → Pv D 0 0 (upd H D (.lst [])))
    (body : ∀ (D : Addr) (i j : Nat) (H' : Hp), H D = none → i < m → j < n → Pv D i j H' → te ((wipe ((wipe σ [p, q]).set p (some (.int (i : Nat)))) [q]).set q (some (.int (j : Nat)))) H' fun y H4 => ∃ acc, H4 D = some (.lst acc) ∧ acc.length < sizeLine ∧ Pv D i (j + 1) (upd H4 D (.lst (acc ++ [y]))))
    (nextRow : ∀ (D : Addr) (i : Nat) (H' : Hp), Pv D i n H' → Pv D (i + 1) 0 H') (fin : ∀ D H', H D = none → Pv D m 0 H' → Q (.ref D) H') :
    tLc2 (iRng1 ta) (gName p) tYes (iRng1 tb) (gName q) tYes te [p, q] [q] σ H Q := by
  refine ha _ ⟨(m : Nat), rfl, by omega, by omega, fun D nD => ?_⟩
  rw [Int.toNat_natCast]
  refine ⟨fun i k H' => k + i = m ∧ Pv D i 0 H', ⟨m, rfl, h0 D nD⟩, fun i k H1 h => ?_⟩
  obtain ⟨e, pv⟩ := h
  rcases Nat.lt_or_ge i m with lt | ge
  · refine .inr ⟨lt, Pv D (i + 1) 0, fun H' p' => ⟨k - 1, by omega, by omega, p'⟩, fun x H' y => ?_⟩
    obtain ⟨rfl, rfl⟩ := y
    rw [Int.zero_add]
    refine ⟨hw1 _, ?_⟩
    simp only [tYes, if_true]
    refine hb D i H' _ nD lt pv ⟨(n : Nat), rfl, by omega, by omega, ?_⟩
    rw [Int.toNat_natCast]
    exact it_range (W0 := fun _ => True) (Pv D i) pv (fun j H2 hj pj => ⟨hw2 _ _, body D i j H2 nD lt hj pj⟩) fun H2 pj => nextRow D i H2 pj
  · have z : i = m := by omega
    exact .inl ⟨by subst z; first | rfl | exact Nat.le_refl _, fin D H1 nD (by rw [← z]; exact pv)⟩
end My

set_option Elab.async false
set_option linter.all false
set_option maxRecDepth 100000
set_option maxHeartbeats 4000000
/-! ### slices of mapped lists -/
namespace My
open PySem L2
theorem cut_ij {α : Type} {f : α → V} {ts : List α} {i j : Nat} (h : i ≤ j) : cutV (ts.map f) (some (i : Int)) (some (j : Int)) = ((ts.drop i).take (j - i)).map f := by
  unfold cutV
  rw [HT.sIx_nat, HT.sIx_nat, List.length_map, ← List.map_drop, ← List.map_take]
  congr 1
  rcases Nat.le_total i ts.length with z | z
  · rw [Nat.min_eq_left z]
    rcases Nat.le_total j ts.length with z2 | z2
    · rw [Nat.min_eq_left z2]
    · rw [Nat.min_eq_right z2, List.take_of_length_le (by rw [List.length_drop]; omega), List.take_of_length_le (by rw [List.length_drop]; omega)]
  · rw [Nat.min_eq_right z, List.drop_length, List.drop_of_length_le z]; simp
theorem cut_0j {α : Type} {f : α → V} {ts : List α} {j : Nat} : cutV (ts.map f) none (some (j : Int)) = (ts.take j).map f := by
  have := cut_ij (f := f) (ts := ts) (Nat.zero_le j)
  rw [List.drop_zero, Nat.sub_zero] at this
  exact this
theorem cut_i {α : Type} {f : α → V} {ts : List α} {i : Nat} : cutV (ts.map f) (some (i : Int)) none = (ts.drop i).map f := by
  unfold cutV
  rw [HT.sIx_nat, ← List.map_drop, ← List.map_take]
  congr 1
  show (ts.drop (min i (ts.map f).length)).take ((ts.map f).length - _) = _
  rw [List.length_map]
  rcases Nat.le_total i ts.length with z | z
  · rw [Nat.min_eq_left z, List.take_of_length_le (by rw [List.length_drop]; omega)]
  · rw [Nat.min_eq_right z, List.drop_length, List.drop_of_length_le z]; simp
end My

set_option Elab.async false
set_option linter.all false
set_option maxRecDepth 100000
set_option maxHeartbeats 4000000
/-! ### methods and called objects within a try -/
namespace My
open PySem L2 StX PySem.Spec PyProof.Rows
def tMethT (C : Addr) (m : Str) (sp : Sp) (E : L2.St → XK) (ta : TE) (t : TA) : TE := fun σ H Q => ta σ H fun x H1 => ∃ a dx fs, x = .ref a ∧ H1 a = some (.ins C dx fs) ∧ fs.lookup m = none ∧ t σ H1 fun vs H2 => sp (.ref a :: vs) H2 Q (E σ)
section
variable {X : Cx} {CX : CXT} {C g : Addr} {fd : FuncData} {ps : List Str} {sp : Sp} {E : L2.St → XK} {k : Nat} {o e : Expr} {es : List Expr} {ta : TE} {t : TA} {pos apos : Pos} {m : Str} {f : Addr}
theorem pe_methT {pl : Sem Bool} (c : Cls X.K C) (hm : Meth X.K C m f) (F : FnOk X.prog X.w X.K X.mg X.base CX k f fd ps sp) (hr : Room k X.A) (hb : Binds X.K fd ps []) (hx : ∀ σ, PassesAt CX X σ (E σ)) (he : PE X o ta) (ha : PA X (e :: es) t)
    (hst : starEach (e :: es) X.env = (false, eval e X.env) :: starEach es X.env := by rfl) (hpl : (backTo pos (starEach es X.env)).any (·.1) = false := by rfl)
    (ht : eval (.Call (.Attribute o m apos) (e :: es) [] pos) X.env = (do
      let ov ← eval o X.env
      standAt apos.atName
      let (f, first) ← holding [ov] (getMethod ov m pl)
      callWith pos f first (backTo pos (starEach (e :: es) X.env)) (backToKw pos (keywordEach [] X.env))) := by rfl) :
    PE X (.Call (.Attribute o m apos) (e :: es) [] pos) (tMethT C m sp E ta t) := by
  refine ⟨fun pins s σ H Q I h => ?_⟩
  refine PySem.W.methodCall_KW (pl := pl) (thn (he.run pins s σ H _ I h) fun u s1 ⟨x, H1, I1, rx, a, dx, fs, ex, ea, l, q⟩ => ?_) ht
  subst ex
  obtain rfl : u = Value.ref a := rx
  refine getmeth_ok I1 ea c hm l ?_
  refine PySem.W.callWith_K (first := [.ref a]) (h₀ := X.base) I.ok.mod.kin hm.kp (thn (ha.run pos pins s1 σ H1 _ I1 q) fun us s2 ⟨vs, H2, I2, r, q2⟩ => ⟨I2.kIn, ?_⟩) hst hpl
  exact run_fnS (us := .ref a :: us) (vs := .ref a :: vs) F hr hb (hx σ) I2 (.cons rfl r) q2
def tCallOT (C : Addr) (sp : Sp) (E : L2.St → XK) (tf : TE) (t : TA) : TE := fun σ H Q => tf σ H fun y H1 => ∃ a, y = V.ref a ∧ t σ H1 fun vs H2 => (∃ dx fs, H2 a = some (.ins C dx fs)) ∧ sp (V.ref a :: vs) H2 Q (E σ)
theorem run_fnRS {pins : List (Addr × Obj)} {σ : L2.St} {H : Hp} {s : Shared} {f : Addr} {Q : VK} {E : L2.St → XK} {us : List Value} {vs : List V} (F : FnR X.prog X.w X.K X.mg X.base CX k f sp) (hr : Room k X.A) (hx : PassesAt CX X σ (E σ)) (I : Inv X pins σ H s) (r : Vals vs us) (h : sp vs H Q (E σ)) :
    codeAny (model X.prog X.w) X.A (.call (.ref f) ⟨us, []⟩) (fun r s' => match r with | .ok (.ret v) => EP X pins σ Q v s' | .ok _ => False | .error e => X.xe e s') s := by
  refine codeAny_mono (F X.A X.stack s H us vs Q (E σ) hr I.env0 r h) fun r s' hq => ?_
  cases r with
  | error e => exact hx pins H s e s' I hq
  | ok fl =>
    cases fl with
    | ret u => exact I.after hq
    | next => exact False.elim hq
    | brk => exact False.elim hq
    | cont => exact False.elim hq
theorem pe_callOT {fe : Expr} {tf : TE} (c : CallO X.K C g) (F : FnR X.prog X.w X.K X.mg X.base CX k g sp) (hr : Room k X.A) (hx : ∀ σ, PassesAt CX X σ (E σ)) (hf : PE X fe tf) (ha : PA X (e :: es) t)
    (ht : eval (.Call fe (e :: es) [] pos) X.env = (do callWith pos (← eval fe X.env) [] (backTo pos (starEach (e :: es) X.env)) (backToKw pos (keywordEach [] X.env))) := by rfl)
    (he : starEach (e :: es) X.env = (false, eval e X.env) :: starEach es X.env := by rfl) (hpl : (backTo pos (starEach es X.env)).any (·.1) = false := by rfl) : PE X (.Call fe (e :: es) [] pos) (tCallOT C sp E tf t) := by
  refine ⟨fun pins s σ H Q I h => ?_⟩
  refine Call_ (thn (hf.run pins s σ H _ I h) fun u s1 ⟨y, H1, I1, ry, a, ey, q⟩ => ?_) ht
  subst ey
  obtain rfl : u = Value.ref a := ry
  refine callO_with (thn (ha.run pos pins s1 σ H1 _ I1 q) fun us s2 ⟨vs, H2, I2, r, hi, q2⟩ => ?_) he hpl
  obtain ⟨ox, od, J, hd⟩ := insC_at I2 (.inr hi)
  exact ⟨⟨C, ox, od, J, hd⟩, wpAny_call (PySem.W.kco_code I2.kIn J hd c.at_ c.fn c.fi (run_fnRS (us := .ref a :: us) (vs := .ref a :: vs) F hr (hx σ) I2 (.cons rfl r) q2))⟩
end
end My

set_option Elab.async false
set_option linter.all false
set_option maxRecDepth 100000
set_option maxHeartbeats 4000000
/-! ### a quiet def, whatever exception is handled around its call -/
namespace My
open PySem PySem.Spec PyProof.Rows L2
structure RoomZ (k : Nat) (A : Around) : Prop where
  dep : A.depth + 3 * k + 5 < recursionLimit
  uni : A.units + 16 * k + 200 < cLine
/-- the room behind a mark is that ahead of it -/
theorem roomZ_mark {k : Nat} {A : Around} {v : Option Value} (r : Room k A) : RoomZ k (A.mark v) := ⟨r.dp, r.un⟩
def cxZ (CX : CXT) (P : Program) (w : World) (K : PySem.W.Frag) (mg : Str → Option Value) (base : Heap) (N : List Str) (qual : Str) (sc : Scope) (f : Addr) (cd : Value) (A : Around) (outer : List Env) (s : Shared) (H : Hp) (E : XK) : Cx := { cxOf CX P w K mg base N qual sc f cd A outer s H E with calm := false }
structure FnZ (P : Program) (w : World) (K : PySem.W.Frag) (mg : Str → Option Value) (base : Heap) (CX : CXT) (k : Nat) (f : Addr) (fd : FuncData) (ps : List Str) (sp : Sp) : Prop where
  len : ∀ vs H Q E, sp vs H Q E → vs.length = ps.length
  run : ∀ (A : Around) (outer : List Env) (s : Shared) (H : Hp) (ar : Args) (us : List Value) (vs : List V) (Q : VK) (E : XK), RoomZ k A → Env0 P w K mg base A outer s H → BindsTo s fd ar (ps.zip us) → Vals vs us → sp vs H Q E → codeAny (model P w) A (.call (.ref f) ar) (CR CX outer P w H s Q E) s
section
variable {CX : CXT} {P : Program} {w : World} {K : PySem.W.Frag} {mg : Str → Option Value} {base : Heap} {N ps : List Str} {qual : Str} {sc : Scope} {f : Addr} {cd : Value} {k : Nat} {sp : Sp}
theorem e0_free {A : Around} {outer : List Env} {s : Shared} {H : Hp} (e : Env0 P w K mg base A outer s H) : Env0 P w K mg base { A with handled := none } outer s H := ⟨e.frames, e.mod, e.bs, e.bsz, e.funs, e.frf, e.hok, e.bare⟩
theorem inv_startZ {A : Around} {outer : List Env} {s s1 : Shared} {H : Hp} {E : XK} {us : List Value} {vs : List V} (S : FnScope N ps sc) (e0 : Env0 P w K mg base A outer s H) (hl : vs.length = ps.length) (r : Vals vs us)
    (x : InCallC s s.heap.objs.size (bindL (envOfC qual sc s.heap.objs.size f cd).kindOf (ps.zip us) fun _ => none) (cellsFrom (s.heap.objs.size + 1) sc.names []) (bindC (envOfC qual sc s.heap.objs.size f cd).kindOf (ps.zip us) fun _ => none) s1) : Inv (cxZ CX P w K mg base N qual sc f cd A outer s H E) [] (L2.start N vs) H s1 := by
  have J := inv_start (CX := CX) (E := E) (A := { A with handled := none }) S rfl (e0_free e0) hl r x
  have o := J.ok
  exact ⟨⟨o.mod, o.kind, o.glob, o.blt, o.above, o.inj, o.has, o.cab, fun z => (by cases z), Around.frames_deeper e0.frames, o.stk, o.exf, o.bs, o.bsz, o.noex, o.exfs, o.funs, o.frf⟩, J.os, J.bare, J.base, J.loc, J.cell, J.free, J.freeC, J.pin, J.hok, J.len⟩
theorem fn_ofZ {name : Str} {params : Arguments} {body : List Stmt} {dV kV doc pm ct oc : Value} {an od : Option Addr} {osl : Array (Option Value)} (lk : K.lookup f = some ⟨oc, od, .func (PySem.W.fnOf name qual params body sc dV kV doc pm an cd ct), osl⟩) (hcd : PySem.W.codeIn K cd qual = true) (S : FnScope N ps sc)
    (len : ∀ vs H Q E, sp vs H Q E → vs.length = ps.length)
    (todo : ∀ (A : Around) (outer : List Env) (s : Shared) (H : Hp) (vs : List V) (Q : VK) (E : XK), sp vs H Q E → ∃ t, PSs (cxZ CX P w K mg base N qual sc f cd A outer s H E) body t ∧ t { nx := fun _ H' => Q .non H', rt := Q } (L2.start N vs) H) :
    FnZ P w K mg base CX (k + 1) f (PySem.W.fnOf name qual params body sc dV kV doc pm an cd ct) ps sp := by
  refine ⟨len, fun A outer s H ar us vs Q E room e0 bnd vals hsp => ?_⟩
  have kin : K.In s.heap := e0.mod.kin.keeps fun b o z => (e0.bs b o z).1
  have nolim : s.heap.NoLimit := e0.mod.nolimit.keeps fun b o z => (e0.bs b o z).1
  have dep : A.depth < recursionLimit := by
    have := room.dep
    omega
  refine codeAny_call_function dep (kin _ _ lk) rfl S.co S.gen rfl (PySem.W.codeRec_of kin hcd) (bnd _ _ _ _ ?_)
  have kinds : ∀ y ∈ ps.zip us, sc.names.lookup y.1 = some .local ∨ (sc.names.lookup y.1 = some .cell ∧ ((cellsFrom (s.heap.objs.size + 1) sc.names []).lookup y.1).isSome = true) := fun ⟨n, v⟩ hy =>
    (S.par n (List.of_mem_zip hy).1).imp id fun z => ⟨z, PySem.W.cellsFrom_some _ _ _ (.inl z)⟩
  refine wpAny_newFunctionEnv_cells S.kind kinds fun env he s1 x => ?_
  cases he
  refine ⟨nolim.keeps x.toInCall.keep, codeAny_func ?_⟩
  obtain ⟨t, ht, hq⟩ := todo A outer s H vs Q E hsp
  have I := inv_startZ (CX := CX) (E := E) (cd := cd) S e0 (len _ _ _ _ hsp) vals x
  refine wpAny_mono (ht.run [] s1 (L2.start N vs) H _ I hq) (fun fl s' done => ?_) fun e s' z => z
  cases fl with
  | ret u =>
    obtain ⟨v, σ', H', J, rv, z⟩ := done
    exact ⟨v, H', J.os, J.bare, J.base, J.hok, rv, z⟩
  | next =>
    obtain ⟨σ', H', J, z⟩ := done
    exact ⟨V.non, H', J.os, J.bare, J.base, J.hok, rfl, z⟩
  | brk => obtain ⟨_, _, _, z⟩ := done; exact z.elim
  | cont => obtain ⟨_, _, _, z⟩ := done; exact z.elim
end
section
variable {X : Cx} {CX : CXT} {k : Nat} {f : Addr} {fd : FuncData} {ps : List Str} {sp : Sp} {E : L2.St → XK} {x : Str} {q pos : Pos} {e : Expr} {es : List Expr} {t : TA}
theorem pe_callZ (F : FnZ X.prog X.w X.K X.mg X.base CX k f fd ps sp) (hr : RoomZ k X.A) (hg : Gl X x) (hm : X.mg x = some (.ref f)) (hk : PySem.W.keepIn X.K (.ref f) = true) (hb : Binds X.K fd ps []) (hx : ∀ σ, PassesAt CX X σ (E σ))
    (ha : PA X (e :: es) t) (hdb : (x == ("__debug__" : Str)) = false := by decide) (he : starEach (e :: es) X.env = (false, eval e X.env) :: starEach es X.env := by rfl) (hpl : (backTo pos (starEach es X.env)).any (·.1) = false := by rfl) : PE X (.Call (.Name x q) (e :: es) [] pos) (tCallS sp E t) := by
  refine ⟨fun pins s σ H Q I h => wpAny_Call_Name_kw (ld_glob I hg hm (PySem.W.callWith_K (h₀ := X.base) I.ok.mod.kin hk (thn (ha.run pos pins s σ H _ I h) fun us s1 ⟨vs, H1, I1, r, z⟩ => ⟨I1.kIn, ?_⟩) he hpl) hdb)⟩
  have hl : us.length = ps.length := r.length.symm.trans (F.len _ _ _ _ z)
  have b := hb s1 us I1.kIn (by rw [List.append_nil]; exact hl)
  rw [List.append_nil] at b
  refine wpAny_call (codeAny_mono (F.run X.A X.stack s1 H1 ⟨us, []⟩ us vs Q (E σ) hr I1.env0 b r z) fun r s' hq => ?_)
  cases r with
  | error e => exact hx σ pins H1 s1 e s' I1 hq
  | ok fl => cases fl with
    | ret u => exact I1.after hq
    | next => exact hq.elim
    | brk => exact hq.elim
    | cont => exact hq.elim
end
end My

set_option Elab.async false
set_option linter.all false
set_option maxRecDepth 100000
set_option maxHeartbeats 4000000
/-! ### displays of data: what an expression gives, read off its form -/
namespace My
open PySem L2
/-- te gives a value of the data d, and what stood stands -/
def DE (te : TE) (σ : L2.St) (H0 : Hp) (d : PyData) : Prop := ∀ H1, Kp [] H0 H1 → ∀ Q : VK, (∀ v H2, Kp [] H1 H2 → Dq H2 v d → Q v H2) → te σ H1 Q
def DA (ta : TA) (σ : L2.St) (H0 : Hp) (ds : List PyData) : Prop := ∀ H1, Kp [] H0 H1 → ∀ Q : List V → Hp → Prop, (∀ vs H2, Kp [] H1 H2 → DqAll H2 vs ds → Q vs H2) → ta σ H1 Q
section
variable {σ : L2.St} {H0 : Hp} {te tf : TE} {ta : TA} {d : PyData} {ds es : List PyData}
theorem de_int {i : Int} : DE (tC (.int i)) σ H0 (.int i) := fun H1 _ Q h => h _ _ (Kp.refl _ _) (.int i)
theorem de_str {z : Str} : DE (tC (.str z)) σ H0 (.str z) := fun H1 _ Q h => h _ _ (Kp.refl _ _) (.str z)
theorem de_bl {b : Bool} : DE (tC (.bl b)) σ H0 (.bool b) := fun H1 _ Q h => h _ _ (Kp.refl _ _) (.bl b)
theorem de_non : DE (tC .non) σ H0 .none := fun H1 _ Q h => h _ _ (Kp.refl _ _) .non
theorem de_neg {i : Int} : DE (tUn (rU fun i => V.int (-i)) (tC (.int i))) σ H0 (.int (-i)) := fun H1 _ Q h => ⟨i, rfl, h _ _ (Kp.refl _ _) (.int _)⟩
theorem de_var {i : Nat} {v : V} (e : σ[i]? = some (some v)) (hd : Dq H0 v d) : DE (tVar i) σ H0 d := fun H1 k Q h => ⟨v, e, h _ _ (Kp.refl _ _) (Dq.kp k hd)⟩
theorem da_nil : DA tNil σ H0 [] := fun H1 _ Q h => h _ _ (Kp.refl _ _) .nil
theorem da_cons (a : DE te σ H0 d) (b : DA ta σ H0 ds) : DA (tCons te ta) σ H0 (d :: ds) := fun H1 k Q h => a H1 k _ fun v H2 k2 hv => b H2 (k.trans k2) _ fun vs H3 k3 hvs => h _ _ (k2.trans k3) (.cons (Dq.kp k3 hv) hvs)
theorem de_tup (a : DA ta σ H0 ds) (l : ds.length ≤ 1000 := by decide) : DE (tTup ta) σ H0 (.tuple ds) := fun H1 k Q h => a H1 k _ fun vs H2 k2 hvs => ⟨by rw [hvs.len, sizeLine_eq]; omega, fun p np => h _ _ (k2.trans (Kp.new np)) (.tup upd_same (DqAll.kp (Kp.new np) hvs))⟩
theorem de_lst (a : DA ta σ H0 ds) (l : ds.length ≤ 1000 := by decide) : DE (tLst ta) σ H0 (.list ds) := fun H1 k Q h => a H1 k _ fun vs H2 k2 hvs => ⟨by rw [hvs.len, sizeLine_eq]; omega, fun p np => h _ _ (k2.trans (Kp.new np)) (.lst upd_same (DqAll.kp (Kp.new np) hvs))⟩
/-- list + list -/
theorem de_cat (a : DE te σ H0 (.list ds)) (b : DE tf σ H0 (.list es)) (l : ds.length ≤ 1000) (l2 : es.length ≤ 1000) : DE (tOp rCat te tf) σ H0 (.list (ds ++ es)) := fun H1 k Q h => a H1 k _ fun v H2 k2 hv => b H2 (k.trans k2) _ fun u H3 k3 hu => by
  have hv3 := Dq.kp k3 hv
  cases hv3 with
  | @lst p xs _ e1 h1 =>
    cases hu with
    | @lst q ys _ e2 h2 =>
      refine ⟨p, q, xs, ys, rfl, rfl, e1, e2, by rw [h1.len, h2.len, sizeLine_eq]; omega, fun r nr => h _ _ ((k2.trans k3).trans (Kp.new nr)) (.lst upd_same ?_)⟩
      have app : ∀ {as bs : List PyData} {us vs : List V}, DqAll H3 us as → DqAll H3 vs bs → DqAll H3 (us ++ vs) (as ++ bs) := by
        intro as
        induction as with
        | nil => intro bs us vs h h'; cases h; exact h'
        | cons a as ih => intro bs us vs h h'; cases h with
          | cons x t => exact .cons x (ih t h')
      exact DqAll.kp (Kp.new nr) (app h1 h2)
/-- t[j], t a name of a tuple -/
theorem de_ix {K : PySem.W.Frag} {i : Nat} {j : Nat} {t : Addr} {xs : List V} {x : V} (e : σ[i]? = some (some (.ref t))) (ht : H0 t = some (.tup xs)) (ej : xs[j]? = some x) (hd : Dq H0 x d) : DE (tOp (rIxT K) (tVar i) (tC (.int (j : Nat)))) σ H0 d := fun H1 k Q h =>
  ⟨.ref t, e, t, xs, (j : Nat), x, rfl, rfl, sq_t (k _ _ not0 ht), atI_nat ej, h _ _ (Kp.refl _ _) (Dq.kp k hd)⟩
/-- tuple + tuple, neither empty -/
theorem de_catA {K : PySem.W.Frag} (a : DE te σ H0 (.tuple ds)) (b : DE tf σ H0 (.tuple es)) (l : ds.length ≤ 1000) (l2 : es.length ≤ 1000) (n1 : ds ≠ []) (n2 : es ≠ []) : DE (tOp (rCatA K) te tf) σ H0 (.tuple (ds ++ es)) := fun H1 k Q h => a H1 k _ fun v H2 k2 hv => b H2 (k.trans k2) _ fun u H3 k3 hu => by
  have hv3 := Dq.kp k3 hv
  cases hv3 with
  | @tup p xs _ e1 h1 =>
    cases hu with
    | @tup q ys _ e2 h2 =>
      have m1 : xs ≠ [] := fun z => by have := h1.len; rw [z] at this; exact n1 (List.eq_nil_of_length_eq_zero this.symm)
      have m2 : ys ≠ [] := fun z => by have := h2.len; rw [z] at this; exact n2 (List.eq_nil_of_length_eq_zero this.symm)
      refine ⟨p, q, xs, ys, rfl, rfl, sq_t e1, sq_t e2, by rw [h1.len, h2.len, sizeLine_eq]; omega, fun z => absurd z m1, fun _ z => absurd z m2, fun _ _ r nr => h _ _ ((k2.trans k3).trans (Kp.new nr)) (.tup upd_same ?_)⟩
      have app : ∀ {as bs : List PyData} {us vs : List V}, DqAll H3 us as → DqAll H3 vs bs → DqAll H3 (us ++ vs) (as ++ bs) := by
        intro as
        induction as with
        | nil => intro bs us vs h h'; cases h; exact h'
        | cons a as ih => intro bs us vs h h'; cases h with
          | cons x t => exact .cons x (ih t h')
      exact DqAll.kp (Kp.new nr) (app h1 h2)
/-- list(t), t a name of a tuple -/
theorem de_list {K : PySem.W.Frag} (a : DE te σ H0 (.tuple ds)) : DE (tCB (fun xs H Q => ∃ p ys, xs = [V.ref p] ∧ (SqL K H p ys ∨ SqT K H p ys) ∧ ∀ (l : Addr), H l = none → Q (V.ref l) (upd H l (HO.lst ys))) (tCons te tNil)) σ H0 (.list ds) := fun H1 k Q h => a H1 k _ fun v H2 k2 hv => by
  cases hv with
  | @tup p xs _ e1 h1 => exact ⟨p, xs, rfl, .inr (sq_t e1), fun l nl => h _ _ (k2.trans (Kp.new nl)) (.lst upd_same (DqAll.kp (Kp.new nl) h1))⟩
end
end My

set_option Elab.async false
set_option linter.all false
set_option maxRecDepth 100000
set_option maxHeartbeats 4000000
/-! ### super().m() of a plain class: the next class that has m tells -/
namespace My
open PySem L2 NdefX ClX
/-- an expression of a known activation -/
structure PEAt (X : Cx) (c : Code) (e : Expr) (t : TE) : Prop where
  run : ∀ (pins : List (Addr × Obj)) (s : Shared) (σ : L2.St) (H : Hp) (Q : VK), Inv X pins σ H s → t σ H Q → wpAt (model X.prog X.w) X.A c (eval e X.env) (EP X pins σ Q) X.xe s
/-- what the written part says of m behind D, for objects of the class C -/
structure Nxt (K : PySem.W.Frag) (C D : Addr) (m : Str) (f : Addr) : Prop where
  at_ : PySem.W.ks_superIn K C D m = some (some (.ref f))
  fn : PySem.W.fnIn K f = true
  ty : PySem.W.typeIn K (.ref f) = some (.type "function")
  me : PySem.W.mroIn K C (.ref D) = some true
  opq : PySem.W.nsIn K cStatics "thirdparty.any" = some none
/-- super().m(): the object stands in the first slot -/
def tSupM (P : Program) (w : World) (K : PySem.W.Frag) (mg : Str → Option Value) (base : Heap) (CX : CXT) (k : Nat) (D : Addr) (m : Str) (E : XK) : TE := fun σ H Q => ∃ (a C dx : Addr) (fs : List (Str × V)) (f : Addr) (fd : FuncData) (ps : List Str) (sp : Sp),
  σ[0]? = some (some (.ref a)) ∧ H a = some (.ins C dx fs) ∧ Nxt K C D m f ∧ Binds K fd ps [] ∧ FnOk P w K mg base CX k f fd ps sp ∧ sp [.ref a] H Q E
section
variable {X : Cx}
theorem peat_super {body : List Stmt} {f cc cda D : Addr} {fd : FuncData} {oc : Value} {od : Option Addr} {osl : Array (Option Value)} {cl : Value} {cld : Option Addr} {csl : Array (Option Value)} {ar : Arg} {p0 p1 apos cpos : Pos} {pl : Sem Bool} {m : Str} {CX : CXT} {k : Nat} {E : XK}
    (hDc : ∃ cd, PySem.W.clsIn X.K D = some cd) (G : CodeF X.K X.prog cda) (hr : Room k X.A) (hx : Passes CX X E)
    (hf : X.K.lookup f = some ⟨oc, od, .func fd, osl⟩) (hp : (fd.params.posonlyargs ++ fd.params.args).head? = some ar)
    (hcell : X.K.lookup cc = some ⟨cl, cld, .cell (some (.ref D)), csl⟩) (hsuper : X.mg "super" = none)
    (hfu : X.env.func = some f) (hco : X.env.code = .ref cda) (hcl : X.env.cells.lookup ("__class__" : Str) = some cc)
    (hks : X.env.scope.names.lookup ("super" : Str) = some .globalImplicit) (hkc : X.env.scope.names.lookup ("__class__" : Str) = some .free) (hka : Loc X.env.scope ar.arg)
    (hN : X.N[0]? = some ar.arg) (hnm : (m == ("__class__" : Str)) = false)
    (hev : eval (.Call (.Attribute (.Call (.Name "super" p0) [] [] p1) m apos) [] [] cpos) X.env = (do
      let ov ← attributeBase (.Call (.Name "super" p0) [] [] p1) m X.env (eval (.Call (.Name "super" p0) [] [] p1) X.env)
      standAt apos.atName
      let (f, first) ← holding [ov] (getMethod ov m pl)
      callWith cpos f first (backTo cpos (starEach [] X.env)) [])) :
    PEAt X (.func body X.env) (.Call (.Attribute (.Call (.Name "super" p0) [] [] p1) m apos) [] [] cpos) (tSupM X.prog X.w X.K X.mg X.base CX k D m E) := by
  refine ⟨fun pins s σ H Q I h => ?_⟩
  obtain ⟨a, C, dx, fs, g, gd, ps, sp, hσ, ea, N, hb, F, q⟩ := h
  obtain ⟨ccl, cdd, vs, ccs, file, tf, hcode, hvs, hfile⟩ := G.at_
  obtain ⟨cdD, hD⟩ := hDc
  have I0 := I
  obtain ⟨hh, gg, d, t, os⟩ := s
  have XK := I.kIn
  obtain ⟨oD, hD1, hD2⟩ : ∃ oD, hh.get? D = some oD ∧ oD.data = .cls cdD := by
    unfold PySem.W.clsIn at hD
    split at hD
    · rename_i c d cd' sl ho
      cases hD
      exact ⟨_, XK _ _ ho, rfl⟩
    · cases hD
  obtain ⟨mb, hb1, hb2⟩ := I.mod.blt
  obtain ⟨mm, hn, hl⟩ := id I.loc
  obtain ⟨u0, ru0, lk0⟩ := hl 0 ar.arg (.ref a) hN hσ (hka.elim Or.inl fun z => Or.inr (Or.inl z))
  obtain rfl : u0 = Value.ref a := ru0
  obtain ⟨mA, OM, _, _, _, _⟩ := ins_get I.hok ea
  have IA := OM.obj
  refine PySem.ks_wpAt_MethodCall ?_ hev
  refine PySem.ks_wpAt_super_base (env := X.env) hks hkc hnm hfu (XK _ _ hf) rfl hp hco (XK _ _ hcode) rfl hvs hfile G.noTop ?_
  refine PySem.W.ks_loadName_global I.ok.kind hks (PySem.Calls.loadGlobal_builtin (by rw [I.ok.glob]; exact I.mod.glob.keeps I.bk) hsuper (by rw [I.ok.blt]; exact hb1.keeps I.bk) ((hb2 "super" (by decide)).trans (by decide +kernel)) ⟨rfl, ?_⟩)
  refine wpAny_loadName_free I.ok.kind hkc hcl ⟨_, XK _ _ hcell, rfl⟩ ?_
  have ldSelf : ∀ {A : Around} {E : Value → Shared → Prop} {Q : Value → Shared → Prop}, Q (Value.ref a) ⟨hh, gg, d, t, os⟩ → wpAny (model X.prog X.w) A (loadName X.env ar.arg) Q E ⟨hh, gg, d, t, os⟩ := by
    intro A E Q q
    rcases lk0 with ⟨hkl, e⟩ | ⟨hkc', c, hc, hv⟩
    · exact wpAny_loadName_local I.ok.kind hkl hn e q
    · rcases hka with z | z
      · exfalso
        rcases hkc' with y | y
        · have y' : X.env.scope.names.lookup ar.arg = some .cell := y
          rw [z] at y'; cases y'
        · have y' : X.env.scope.names.lookup ar.arg = some .free := y
          rw [z] at y'; cases y'
      · exact wpAny_loadName_cell I.ok.kind z hc hv q
  refine ldSelf ?_
  refine ks_wpAny_isType_cls hD1 hD2 ⟨rfl, ?_⟩
  refine ks_wpAny_call_super hD1 hD2 IA rfl (fun c z => nomatch z) (PySem.W.looks_mroIn XK N.me) (fun h' e1 k1' => ?_)
  have I1 : Inv X pins σ H ⟨h', gg, d, t, os⟩ := I.kept (t' := t) k1'
  have X1 := I1.kIn
  have IA1 : h'.get? a = _ := k1' _ _ IA
  cases hc : PySem.W.clsIn X.K C with
  | none => have z := N.at_; unfold PySem.W.ks_superIn at z; rw [hc] at z; cases z
  | some cd =>
    have q1 := N.at_
    unfold PySem.W.ks_superIn at q1
    rw [hc] at q1
    obtain ⟨of, hof, hofc⟩ : ∃ of, h'.get? g = some of ∧ of.cls = .type "function" := by
      have ht' : (X.K.lookup g).map (·.cls) = some (.type "function") := N.ty
      cases z : X.K.lookup g with
      | none => rw [z] at ht'; cases ht'
      | some of => rw [z] at ht'; exact ⟨of, X1 _ _ z, Option.some.inj ht'⟩
    have ne : a ≠ C := fun z => by
      unfold PySem.W.clsIn at hc
      split at hc
      · rename_i c d cd' sl ho
        have w := X1 _ _ ho
        rw [← z, IA1] at w
        cases w
      · cases hc
    refine PySem.ks_wpAny_getMethod_super e1 (PySem.W.looks_opaque X1 N.opq) (l₀ := cd.mro) ?_ rfl X1 q1 hof hofc ne hnm ?_
    · exact fun A Q E s k q => wpAny_bind ((PySem.W.looks_clsIn X1 hc) A _ E s k (wpAny_pure q))
    have I2 : Inv X ((h'.objs.size, PySem.W.methodObj (.ref g) (.ref a)) :: pins) σ H ⟨h'.push (PySem.W.methodObj (.ref g) (.ref a)), gg, d, t + 1, os⟩ :=
      pin_new I1 (fun _ _ z => Heap.get?_push_of_some _ z) (Nat.le_refl _) (Heap.get?_push_size h' rfl) (fun v z => nomatch z)
    refine PySem.W.callWith_M0 (K := X.K) (g := g) (self := .ref a) ⟨pin_at I2, I2.kIn⟩ N.fn ?_
    have hl2 : ([Value.ref a] ++ []).length = ps.length := F.len _ _ _ _ q
    have z : wpAny (model X.prog X.w) X.A (call (.ref h'.objs.size) []) (EP X ((h'.objs.size, PySem.W.methodObj (.ref g) (.ref a)) :: pins) σ Q) X.xe ⟨h'.push (PySem.W.methodObj (.ref g) (.ref a)), gg, d, t + 1, os⟩ :=
      wpAny_call (PySem.W.method_call (pin_at I2) (codeAny_mono (F.run X.A X.stack _ H ⟨[.ref a], []⟩ [.ref a] [.ref a] Q E hr I2.env0 (hb _ [.ref a] I2.kIn hl2) (.cons rfl .nil) q) fun r s' hq => by
        cases r with
        | error e => exact hx _ σ H _ e s' I2 hq
        | ok fl =>
          cases fl with
          | ret u => exact I2.after hq
          | next => exact False.elim hq
          | brk => exact False.elim hq
          | cont => exact False.elim hq))
    exact thn z fun _ _ y => unpinE y
/-- x = super().m() -/
theorem psat_asg {body : List Stmt} {e : Expr} {te : TE} {x : Str} {i : Nat} {pos' pos : Pos} (he : PEAt X (.func body X.env) e te) (hN : X.N.Nodup) (hi : X.N[i]? = some x) (hx : Loc X.env.scope x) (hf : X.fn x = true ∨ X.env.scope.names.lookup x = some .local)
    (hs : swapsWith e (some (.Name x pos')) pos.line X.env = pure false) : PSat1 X (.func body X.env) (.Assign [.Name x pos'] e pos) (tAsg te (gName i)) := by
  refine ⟨fun pins s σ H D I h => ?_⟩
  refine PySem.ks_wpAt_Assign_Name (ks_wpAt_mono (he.run pins s σ H _ I h) (fun v s1 r => ?_) fun _ _ z => z) hs
  obtain ⟨x', H1, I1, r1, q1⟩ := r
  exact store_ok I1 hN hi hx r1 (fun s' I' => ⟨_, H1, I', q1⟩) hf
theorem psat_ret {body : List Stmt} {e : Expr} {te : TE} {pos : Pos} (he : PEAt X (.func body X.env) e te) : PSat1 X (.func body X.env) (.Return (some e) pos) (tRet te) := by
  refine ⟨fun pins s σ H D I h => ?_⟩
  refine PySem.ks_wpAt_Return_some (ks_wpAt_mono (he.run pins s σ H _ I h) (fun v s1 r => ?_) fun _ _ z => z)
  obtain ⟨x', H1, I1, r1, q1⟩ := r
  exact ⟨x', σ, H1, I1, r1, q1⟩
end
end My

set_option Elab.async false
set_option linter.all false
set_option maxRecDepth 100000
set_option maxHeartbeats 4000000
/-! ### a def that closes over its class and has cells of its own -/
namespace My
open PySem L2 NdefX ClX
theorem cellsFrom_app : ∀ (names : List (Str × NameKind)) (n : Nat) (acc : List (Str × Addr)), cellsFrom n names acc = cellsFrom n names [] ++ acc
  | [], _, _ => rfl
  | (y, k) :: r, n, acc => by
    unfold cellsFrom
    by_cases h : (k == .cell) = true
    · rw [if_pos h, if_pos h, cellsFrom_app r (n + 1) ((y, n) :: acc), cellsFrom_app r (n + 1) [(y, n)], List.append_assoc]
      rfl
    · rw [if_neg h, if_neg h]
      exact cellsFrom_app r n acc
theorem cellsFrom_mem : ∀ {names : List (Str × NameKind)} {n : Nat} {y : Str} {c : Addr}, (y, c) ∈ cellsFrom n names [] → (y, NameKind.cell) ∈ names
  | [], _, _, _, h => nomatch h
  | (z, k) :: r, n, y, c, h => by
    unfold cellsFrom at h
    by_cases g : (k == .cell) = true
    · rw [if_pos g, cellsFrom_app r (n + 1) [(z, n)]] at h
      rcases List.mem_append.mp h with h | h
      · exact List.mem_cons_of_mem _ (cellsFrom_mem h)
      · have e := List.mem_singleton.mp h
        cases e
        have : k = .cell := by cases k <;> first | rfl | cases g
        subst this
        exact List.mem_cons_self
    · rw [if_neg g] at h
      exact List.mem_cons_of_mem _ (cellsFrom_mem h)
theorem lookup_app1 {l : List (Str × Addr)} {y k : Str} {c d : Addr} (h : (l ++ [(k, d)]).lookup y = some c) : l.lookup y = some c ∨ (l.lookup y = none ∧ y = k ∧ c = d) := by
  rw [List.lookup_append] at h
  cases e : l.lookup y with
  | some c' =>
    rw [e] at h
    exact Or.inl h
  | none =>
    rw [e] at h
    have h : List.lookup y [(k, d)] = some c := h
    rw [List.lookup_cons, List.lookup_nil] at h
    by_cases g : y = k
    · rw [beq_iff_eq.mpr g] at h
      exact Or.inr ⟨rfl, g, (Option.some.inj h).symm⟩
    · rw [beq_eq_false_iff_ne.mpr g] at h
      cases h
theorem lookup_app_of {l : List (Str × Addr)} {y k : Str} {c d : Addr} (h : l.lookup y = some c) : (l ++ [(k, d)]).lookup y = some c := by
  rw [List.lookup_append, h]
  rfl
/-- names: its parameters (plain or cells), then `__class__` -/
structure DScope (N ps : List Str) (sc : Scope) : Prop where
  kind : sc.kind = .function
  co : sc.isCoroutine = false
  gen : sc.isGenerator = false
  nd : N.Nodup
  pre : N.take (ps.length + 1) = ps ++ [("__class__" : Str)]
  par : ∀ x ∈ ps, sc.names.lookup x = some .local ∨ sc.names.lookup x = some .cell
  free : ∀ y ∈ sc.names, y.2 = .free → y.1 = ("__class__" : Str)
  frk : sc.names.lookup ("__class__" : Str) = some .free
  ncl : ∀ y ∈ sc.names, y.2 = .cell → y.1 ≠ ("__class__" : Str)
def dscB (N ps : List Str) (sc : Scope) : Bool :=
  decide (sc.kind = .function) && !sc.isCoroutine && !sc.isGenerator && decide N.Nodup && decide (N.take (ps.length + 1) = ps ++ [("__class__" : Str)]) && ps.all (fun x => decide (sc.names.lookup x = some .local) || decide (sc.names.lookup x = some .cell)) && sc.names.all (fun y => !decide (y.2 = .free) || decide (y.1 = ("__class__" : Str))) && decide (sc.names.lookup ("__class__" : Str) = some .free) && sc.names.all (fun y => !decide (y.2 = .cell) || !decide (y.1 = ("__class__" : Str)))
theorem dscope_by {N ps : List Str} {sc : Scope} (h : dscB N ps sc = true) : DScope N ps sc := by
  unfold dscB at h
  simp only [Bool.and_eq_true, Bool.not_eq_true', decide_eq_true_eq, List.all_eq_true, Bool.or_eq_true, decide_eq_false_iff_not] at h
  obtain ⟨⟨⟨⟨⟨⟨⟨⟨h1, h2⟩, h3⟩, h4⟩, h5⟩, h6⟩, h7⟩, h8⟩, h9⟩ := h
  exact ⟨h1, h2, h3, h4, h5, h6, fun y hy e => (h7 y hy).elim (fun z => absurd e z) id, h8, fun y hy e => (h9 y hy).elim (fun z => absurd e z) id⟩
theorem storeName_ext {env : Env} {z : Str × Addr} {n : Str} {v : Value} (hk : env.scope.kind = .function) (h : env.kindOf n = some .local ∨ (env.kindOf n = some .cell ∧ (env.cells.lookup n).isSome = true)) :
    storeName { env with cells := env.cells ++ [z] } n v = storeName env n v := by
  have e1 : ({ env with cells := env.cells ++ [z] } : Env).kindOf n = env.kindOf n := rfl
  unfold storeName
  rw [e1]
  rcases h with h | ⟨h, hc⟩
  · rw [h]
    rfl
  · obtain ⟨c, hc⟩ := Option.isSome_iff_exists.mp hc
    have e2 : PySem.cellOf ({ env with cells := env.cells ++ [z] } : Env) n = PySem.cellOf env n := by
      unfold PySem.cellOf
      rw [hc]
      show (match (env.cells ++ [z]).lookup n with | some c => _ | none => _) = _
      rw [lookup_app_of (k := z.1) (d := z.2) hc]
    rw [h, e2]
    rfl
section
variable {M : Model} {A : Around} {E : Value → Shared → Prop} {s₀ s : Shared} {m cm : Str → Option Value} {env : Env}
theorem wpAny_bindParamsD {z : Str × Addr} (f : Str × Value → PUnit → Sem (ForInStep PUnit)) (hf : ∀ n v u, f (n, v) u = (do storeName { env with cells := env.cells ++ [z] } n v; pure (.yield ⟨⟩))) (hk : env.scope.kind = .function) :
    ∀ (binds : List (Str × Value)) (m cm : Str → Option Value) (s : Shared) (Q : PUnit → Shared → Prop), InCallC s₀ env.locals m env.cells cm s →
      (∀ x ∈ binds, env.kindOf x.1 = some .local ∨ (env.kindOf x.1 = some .cell ∧ (env.cells.lookup x.1).isSome = true)) →
      (∀ s', InCallC s₀ env.locals (bindL env.kindOf binds m) env.cells (bindC env.kindOf binds cm) s' → Q ⟨⟩ s') → wpAny M A (forIn binds ⟨⟩ f) Q E s
  | [], m, cm, s, Q, x, _, h => by rw [List.forIn_nil]; exact wpAny_pure (h s x)
  | (n, v) :: r, m, cm, s, Q, x, hkind, h => by
    rw [List.forIn_cons, hf, storeName_ext hk (hkind (n, v) List.mem_cons_self)]
    have hr : ∀ y ∈ r, env.kindOf y.1 = some .local ∨ (env.kindOf y.1 = some .cell ∧ (env.cells.lookup y.1).isSome = true) := fun y hy => hkind y (List.mem_cons_of_mem _ hy)
    rcases hkind (n, v) List.mem_cons_self with hl | ⟨hl, hc⟩
    · refine wpAny_bind (wpAny_bind (stLC x hk hl fun s' x' => wpAny_pure (wpAny_bindParamsD f hf hk r _ _ s' Q x' hr fun s'' x'' => h s'' ?_)))
      unfold bindL bindC; rw [if_pos hl, if_pos hl]; exact x''
    · obtain ⟨c, hc⟩ := Option.isSome_iff_exists.mp hc
      have hnl : ¬ env.kindOf n = some .local := by rw [hl]; decide
      refine wpAny_bind (wpAny_bind (stCC x hk hl hc fun s' x' => wpAny_pure (wpAny_bindParamsD f hf hk r _ _ s' Q x' hr fun s'' x'' => h s'' ?_)))
      unfold bindL bindC; rw [if_neg hnl, if_neg hnl]; exact x''
end
section
variable {M : Model} {A : Around} {E : Value → Shared → Prop} {s : Shared}
theorem wpAny_newFunctionEnvD {scope : Scope} {globals : Addr} {z : Str × Addr} {binds : List (Str × Value)} {qual : Str} {func : Option Addr} {code : Value} {builtins : Addr} {Q : Env → Shared → Prop}
    (hk : scope.kind = .function)
    (hkind : ∀ x ∈ binds, scope.names.lookup x.1 = some .local ∨ (scope.names.lookup x.1 = some .cell ∧ ((cellsFrom (s.heap.objs.size + 1) scope.names []).lookup x.1).isSome = true))
    (hQ : ∀ env, env = newEnv scope s.heap.objs.size globals (cellsFrom (s.heap.objs.size + 1) scope.names []) qual func code none builtins →
      ∀ s', InCallC s env.locals (bindL env.kindOf binds fun _ => none) env.cells (bindC env.kindOf binds fun _ => none) s' → Q { env with cells := env.cells ++ [z] } s') :
    wpAny M A (newFunctionEnv scope globals [z] binds qual func code none builtins) Q E s := by
  simp only [newFunctionEnv, Option.isSome_none, Bool.false_eq_true, if_false]
  refine wpAny_bind (wpAny_alloc ?_)
  refine wpAny_bind (wpAny_layCells _ (fun name kind cells => by cases hkc : kind == NameKind.cell <;> simp [hkc]) _ _ _ _ ?_)
  have ok := cellsFrom_ok scope.names (s.heap.push { cls := .type "frame", data := .dict #[] }) (s.heap.objs.size + 1) [] ⟨fun _ _ hm => (nomatch hm), List.Pairwise.nil⟩ (by rw [Heap.size_push]; exact Nat.le_refl _)
  rw [Heap.size_push] at ok
  rw [show ({ s with heap := s.heap.push { cls := .type "frame", data := .dict #[] } } : Shared).heap.objs.size = s.heap.objs.size + 1 from Heap.size_push .., cellsFrom_app scope.names (s.heap.objs.size + 1) [z]]
  refine wpAny_bind (wpAny_bindParamsD (z := z) (s₀ := s) (env := newEnv scope s.heap.objs.size globals (cellsFrom (s.heap.objs.size + 1) scope.names []) qual func code none builtins)
    _ (fun _ _ _ => rfl) hk binds (fun _ => none) (fun _ => none) _ _
    ⟨⟨⟨_, _, rfl⟩, (Heap.Ns.new s.heap (.type "frame")).keeps (pushCells_keeps _ _), fun b o e => pushCells_keeps _ _ b o (Heap.get?_push_of_some _ e), Nat.le_refl _⟩,
      fun n c hc => (ok.empty n c (mem_of_lookup hc)).1, ok.apart, fun n c hm => (ok.empty n c hm).2⟩
    hkind fun s' x => wpAny_pure (hQ _ rfl s' x))
end
abbrev envD (qual : Str) (sc : Scope) (L f cda cc : Addr) : Env := PySem.W.envX qual sc L f (.ref cda) (cellsFrom (L + 1) sc.names [] ++ [(("__class__" : Str), cc)])
def cxD (CX : CXT) (P : Program) (w : World) (K : PySem.W.Frag) (mg : Str → Option Value) (base : Heap) (N : List Str) (qual : Str) (sc : Scope) (f cda cc : Addr) (A : Around) (outer : List Env) (s : Shared) (H : Hp) (E : XK) : Cx where
  prog := P
  w := w
  K := K
  mg := mg
  base := base
  A := A.deeper (envD qual sc s.heap.objs.size f cda cc)
  N := N
  s_0 := s
  H_0 := H
  env := envD qual sc s.heap.objs.size f cda cc
  outer := outer
  stack := envD qual sc s.heap.objs.size f cda cc :: outer
  ex := []
  calm := true
  fn := fun x => !(x == ("__class__" : Str))
  pn := []
  xe := fun e s' => wpAny (model P w) (A.deeper (envD qual sc s.heap.objs.size f cda cc)) (leaving (envD qual sc s.heap.objs.size f cda cc) e) (fun _ s'' => CX outer H s E e s'') (fun e' s'' => CX outer H s E e' s'') s'
theorem inv_startD {CX : CXT} {P : Program} {w : World} {K : PySem.W.Frag} {mg : Str → Option Value} {base : Heap} {N ps : List Str} {qual : Str} {scope : Scope} {f cda cc D : Addr} {A : Around} {outer : List Env} {s s1 : Shared} {H : Hp} {E : XK} {us : List Value} {vs : List V}
    (S : DScope N ps scope) (hd : A.handled = none) (e0 : Env0 P w K mg base A outer s H) (hl : vs.length = ps.length) (r : Vals vs us) (hcc : s.heap.IsCell cc (some (.ref D))) (hcH : H cc = none)
    (x : InCallC s s.heap.objs.size (bindL (fun y => scope.names.lookup y) (ps.zip us) fun _ => none) (cellsFrom (s.heap.objs.size + 1) scope.names []) (bindC (fun y => scope.names.lookup y) (ps.zip us) fun _ => none) s1) :
    Inv (cxD CX P w K mg base N qual scope f cda cc A outer s H E) [] (startF N vs [some (.ref D)]) H s1 := by
  have hpl : ps.length + 1 ≤ N.length := by
    have q := congrArg List.length S.pre
    rw [List.length_take, List.length_append] at q
    have : ([("__class__" : Str)] : List Str).length = 1 := rfl
    omega
  obtain ⟨h1, tk, rfl, hk⟩ := x.done
  have noA : ∀ b : Addr, b ∉ (cxD CX P w K mg base N qual scope f cda cc A outer s H E).ex := fun b z => absurd (show b ∈ ([] : List Addr) from z) (by simp)
  have clt : cc < s.heap.objs.size := hcc.lt
  have noC : (cellsFrom (s.heap.objs.size + 1) scope.names []).lookup ("__class__" : Str) = none := by
    cases e : (cellsFrom (s.heap.objs.size + 1) scope.names []).lookup ("__class__" : Str) with
    | none => rfl
    | some c =>
      exact absurd rfl (S.ncl _ (cellsFrom_mem (PySem.mem_of_lookup e)) rfl)
  have ccl : (cellsFrom (s.heap.objs.size + 1) scope.names [] ++ [(("__class__" : Str), cc)]).lookup ("__class__" : Str) = some cc := by
    rw [List.lookup_append, noC]
    rfl
  refine ⟨⟨e0.mod, S.kind, rfl, rfl, Nat.le_refl _, fun y z c h1 h2 => ?_, fun y hy => ?_, fun y c hy h => ?_, fun _ => hd, Around.frames_deeper e0.frames, .inr ⟨rfl, rfl⟩, fun b z => absurd z (noA b), e0.bs, e0.bsz, fun b _ _ => noA b, fun b z => absurd z (noA b), e0.funs, e0.frf⟩,
    rfl, e0.bare, Un.kept hk, ⟨_, x.toInCall.ns, fun i y v h1 h2 h3 => ?_⟩, fun y c h => ?_, e0.hok.fresh (Nat.le_refl _), fun y c h => ?_, fun p hp => absurd (show p ∈ ([] : List (Addr × Obj)) ++ [] from hp) (by simp), e0.hok.kept hk, ?_⟩
  · rcases lookup_app1 h1 with a | ⟨_, a, a'⟩ <;> rcases lookup_app1 h2 with b | ⟨_, b, b'⟩
    · exact name_of_addr x.apart (PySem.mem_of_lookup a) (PySem.mem_of_lookup b)
    · have w1 : s.heap.objs.size < c := x.above _ _ (PySem.mem_of_lookup a)
      rw [b'] at w1
      exact absurd w1 (Nat.lt_asymm clt)
    · have w1 : s.heap.objs.size < c := x.above _ _ (PySem.mem_of_lookup b)
      rw [a'] at w1
      exact absurd w1 (Nat.lt_asymm clt)
    · rw [a, b]
  · have hy : scope.names.lookup y = some .cell ∨ scope.names.lookup y = some .free := hy
    rcases hy with hy | hy
    · obtain ⟨c, e⟩ := cell_has (n := s.heap.objs.size + 1) hy
      exact ⟨c, lookup_app_of e⟩
    · have := S.free _ (PySem.mem_of_lookup hy) rfl
      have : y = ("__class__" : Str) := this
      subst this
      exact ⟨cc, ccl⟩
  · rcases lookup_app1 h with a | ⟨_, a, _⟩
    · exact Nat.le_of_lt (x.above y c (PySem.mem_of_lookup a))
    · subst a
      have hy : (!(("__class__" : Str) == ("__class__" : Str))) = true := hy
      rw [beq_self_eq_true] at hy
      cases hy
  · have h1 : N[i]? = some y := h1
    unfold startF at h2
    by_cases hi : i < ps.length
    · have hq : (ps ++ [("__class__" : Str)])[i]? = some y := by
        rw [← S.pre, List.getElem?_take_of_lt (by omega)]
        exact h1
      rw [List.getElem?_append_left hi] at hq
      rw [List.getElem?_append_left (by rw [List.length_map]; omega), List.getElem?_map] at h2
      have ha : vs[i]? = some v := by
        cases e : vs[i]? with
        | none => rw [e] at h2; cases h2
        | some a => rw [e] at h2; cases h2; rfl
      obtain ⟨u, hu, rv⟩ := r.get ha
      have ndP : ps.Nodup := by
        have q := S.nd.sublist (List.take_sublist (ps.length + 1) N)
        rw [S.pre] at q
        exact (List.nodup_append.mp q).1
      refine ⟨u, rv, ?_⟩
      rcases S.par y (List.mem_of_getElem? hq) with k | k
      · exact .inl ⟨k, bindL_get ndP hq hu k⟩
      · obtain ⟨c, e⟩ := cell_has (n := s.heap.objs.size + 1) k
        refine .inr ⟨.inl k, c, lookup_app_of e, ?_⟩
        have q := x.cell y c e
        rw [bindC_get ndP hq hu (by show scope.names.lookup y ≠ _; rw [k]; decide)] at q
        exact q
    · rw [List.getElem?_append_right (by rw [List.length_map]; omega), List.length_map] at h2
      by_cases h2' : i < ps.length + 1
      · have hq : (ps ++ [("__class__" : Str)])[i]? = some y := by
          rw [← S.pre, List.getElem?_take_of_lt (by omega)]
          exact h1
        have ei : i = ps.length := by omega
        subst ei
        rw [List.getElem?_append_right (Nat.le_refl _), Nat.sub_self] at hq
        have ey : y = ("__class__" : Str) := (Option.some.inj hq).symm
        subst ey
        rw [hl, Nat.sub_self] at h2
        have ev : v = .ref D := (Option.some.inj (Option.some.inj h2)).symm
        subst ev
        exact ⟨.ref D, rfl, .inr ⟨.inr S.frk, cc, ccl, hcc.keeps hk⟩⟩
      · rw [List.getElem?_append_right (by show (1 : Nat) ≤ _; omega), List.getElem?_replicate] at h2
        split at h2 <;> cases h2
  · rcases lookup_app1 h with a | ⟨_, _, a⟩
    · exact ⟨_, x.cell y c a⟩
    · subst a
      exact ⟨_, hcc.keeps hk⟩
  · rcases lookup_app1 h with a | ⟨_, _, a⟩
    · exact e0.hok.fresh (Nat.le_of_lt (x.above y c (PySem.mem_of_lookup a)))
    · subst a
      exact hcH
  · unfold startF
    show _ = N.length
    rw [List.length_append, List.length_append, List.length_map, List.length_replicate]
    have : ([some (.ref D)] : List (Option V)).length = 1 := rfl
    omega
section
variable {P : Program} {w : World} {K : PySem.W.Frag} {mg : Str → Option Value} {base : Heap}
theorem FunX.okD {CX : CXT} {x qual : Str} {st : Stmt} {f cc cda D : Addr} {fd : FuncData} {N ps : List Str} {k : Nat} {sp : Sp} (F : FunX K x qual st f fd cc cda D) (S : DScope N ps (defScope st)) (len : ∀ vs H Q E, sp vs H Q E → vs.length = ps.length)
    (hbody : ∀ (A : Around) (outer : List Env) (s : Shared) (H : Hp) (vs : List V) (Q : VK) (E : XK), Room k (A.deeper (envD qual (defScope st) s.heap.objs.size f cda cc)) → sp vs H Q E →
      ∃ t, PSat (cxD CX P w K mg base N qual (defScope st) f cda cc A outer s H E) (.func (defBody st) (envD qual (defScope st) s.heap.objs.size f cda cc)) (defBody st) t ∧ t { nx := fun _ H' => Q .non H', rt := Q } (startF N vs [some (.ref D)]) H) :
    FnOk P w K mg base CX (k + 1) f fd ps sp := by
  obtain ⟨oc, od, kV, doc, pm, an, ct, osl, rfl, lk, hcd⟩ := F.ex
  obtain ⟨cl, cld, csl, hcc⟩ := F.cell
  refine ⟨len, fun A outer s H args us vs Q E hr e0 hb r hsp => ?_⟩
  have hl := len _ _ _ _ hsp
  have KX : K.In s.heap := e0.mod.kin.keeps fun b o e => (e0.bs b o e).1
  have lim : s.heap.NoLimit := e0.mod.nolimit.keeps fun b o e => (e0.bs b o e).1
  have hcB := e0.mod.kin _ _ hcc
  have hkind : ∀ y ∈ ps.zip us, (defScope st).names.lookup y.1 = some .local ∨ ((defScope st).names.lookup y.1 = some .cell ∧ ((cellsFrom (s.heap.objs.size + 1) (defScope st).names []).lookup y.1).isSome = true) := fun ⟨n, v⟩ hy => by
    rcases S.par n (List.of_mem_zip hy).1 with q | q
    · exact .inl q
    · exact .inr ⟨q, PySem.W.cellsFrom_some _ _ _ (.inl q)⟩
  refine codeAny_call_function hr.depth (KX _ _ lk) rfl S.co S.gen rfl (PySem.W.codeRec_of KX hcd) (hb _ _ _ _ ?_)
  refine wpAny_newFunctionEnvD (z := (("__class__" : Str), cc)) S.kind hkind fun env he s1 x => ?_
  subst he
  refine ⟨lim.keeps x.toInCall.keep, PySem.ks_codeAny_funcAt ?_⟩
  obtain ⟨t, ht, hq⟩ := hbody A outer s H vs Q E (hr.deeper _) hsp
  have I : Inv (cxD CX P w K mg base N qual (defScope st) f cda cc A outer s H E) [] (startF N vs [some (.ref D)]) H s1 := inv_startD S hr.hd e0 hl r ⟨_, KX _ _ hcc, rfl⟩ (e0.bs _ _ hcB).2 x
  refine wpAt_mono (ht.run [] _ (startF N vs [some (.ref D)]) H _ I hq) (fun fl s' hs => ?_) fun e s' hs => hs
  have fin : ∀ {σ' : L2.St} {H' : Hp} {v : V} {u : Value}, Inv (cxD CX P w K mg base N qual (defScope st) f cda cc A outer s H E) [] σ' H' s' → L2.RelV v u → Q v H' → CE outer P w H s Q u s' :=
    fun {σ' H' v u} J rv q => ⟨v, H', J.os, J.bare, J.base, J.hok, rv, q⟩
  cases fl with
  | ret u =>
    obtain ⟨v, σ', H', J, rv, q⟩ := hs
    exact fin J rv q
  | next =>
    obtain ⟨σ', H', J, q⟩ := hs
    exact fin (v := V.non) (u := Value.none) J rfl q
  | brk =>
    obtain ⟨_, _, _, q⟩ := hs
    exact False.elim q
  | cont =>
    obtain ⟨_, _, _, q⟩ := hs
    exact False.elim q
end
end My

set_option Elab.async false
set_option linter.all false
set_option maxRecDepth 100000
set_option maxHeartbeats 4000000
namespace My
open PySem L2
def top (i : Nat) : Stmt := PySem.Challenge.pw_coretower_k15_shapes.main.body.getD i (.Pass ⟨0, 0, 0, 0⟩)
abbrev s_is_name : Stmt := top 10
theorem sc_is_name : FnScope ["value", "letter"] ["value"] (defScope s_is_name) := ⟨rfl, rfl, rfl, by decide +kernel, rfl, by decide +kernel, by decide +kernel⟩
abbrev s_is_below : Stmt := top 11
theorem sc_is_below : FnScope ["value", "bound"] ["value", "bound"] (defScope s_is_below) := ⟨rfl, rfl, rfl, by decide +kernel, rfl, by decide +kernel, by decide +kernel⟩
abbrev s_is_number : Stmt := top 12
theorem sc_is_number : FnScope ["value"] ["value"] (defScope s_is_number) := ⟨rfl, rfl, rfl, by decide +kernel, rfl, by decide +kernel, by decide +kernel⟩
abbrev s_is_pair : Stmt := top 19
theorem sc_is_pair : FnScope ["pair", "size", "answer", "state"] ["pair", "size"] (defScope s_is_pair) := ⟨rfl, rfl, rfl, by decide +kernel, rfl, by decide +kernel, by decide +kernel⟩
abbrev s_is_row : Stmt := top 18
theorem sc_is_row : FnScope ["row", "pair"] ["row"] (defScope s_is_row) := ⟨rfl, rfl, rfl, by decide +kernel, rfl, by decide +kernel, by decide +kernel⟩
abbrev s_check_rows : Stmt := top 17
theorem sc_check_rows : FnScope ["rows", "first_row", "name"] ["rows"] (defScope s_check_rows) := ⟨rfl, rfl, rfl, by decide +kernel, rfl, by decide +kernel, by decide +kernel⟩
def lets : Str := "abcdefghijklmnopqrstuvwxyz"
def lowC (c : Nat) : Bool := decide (97 ≤ c) && decide (c ≤ 122)
def nameS (z : Str) : Bool := decide (1 ≤ z.length) && (decide (z.length ≤ 8) && z.cps.toList.all lowC)
def nameD : PyData → Bool
  | .str z => nameS z
  | _ => false
def belowD (m : Int) : PyData → Bool
  | .int i => decide (0 ≤ i) && decide (i < m)
  | _ => false
mutual
def szD : PyData → Bool
  | .str z => decide (z.length ≤ 1000)
  | .tuple ds => szAll ds
  | .list ds => szAll ds
  | _ => true
def szAll : List PyData → Bool
  | [] => true
  | d :: ds => szD d && szAll ds
end
theorem szAll_mem : ∀ {ds : List PyData}, szAll ds = true → ∀ d ∈ ds, szD d = true
  | d :: ds, h, e, he => by
    have h' : (szD d && szAll ds) = true := h
    rw [Bool.and_eq_true] at h'
    rcases List.mem_cons.mp he with rfl | he
    · exact h'.1
    · exact szAll_mem h'.2 e he
structure Bt (mg : Str → Option Value) (tL t1 t2 : Tok) : Prop where
  b_isinstance : mg "isinstance" = none
  b_str : mg "str" = none
  b_int : mg "int" = none
  b_bool : mg "bool" = none
  b_tuple : mg "tuple" = none
  b_list : mg "list" = none
  b_len : mg "len" = none
  b_all : mg "all" = none
  c_LETTERS : mg "LETTERS" = some (.str lets tL)
  c_MOST_STATES : mg "MOST_STATES" = some (.int 100 t1)
  c_MOST_OPERATIONS : mg "MOST_OPERATIONS" = some (.int 6 t2)
/-- the promise of a test of data -/
def spD (pre : PyData → Prop) (f : PyData → Bool) : Sp := fun vs H Q _ => ∃ (v : V) (d : PyData), vs = [v] ∧ Dq H v d ∧ szD d = true ∧ pre d ∧ ∀ H', Kp [] H H' → Q (.bl (f d)) H'
def LowIn (z : Str) (D : Addr) (H : Hp) (i : Nat) (H' : Hp) : Prop := H' D = some (.lst ((z.cps.toList.take i).map fun c => V.bl (lowC c))) ∧ Kp [] H H'
theorem lets_mem (c : Nat) : decide (c ∈ lets.cps.toList) = lowC c := by
  have e : lets.cps.toList = (List.range 26).map (97 + ·) := by decide +kernel
  rw [e, Bool.eq_iff_iff, decide_eq_true_eq]
  unfold lowC
  rw [Bool.and_eq_true, decide_eq_true_eq, decide_eq_true_eq, List.mem_map]
  constructor
  · rintro ⟨i, hi, rfl⟩
    have := List.mem_range.mp hi
    omega
  · rintro ⟨h1, h2⟩
    exact ⟨c - 97, List.mem_range.mpr (by omega), by omega⟩
theorem all_take {α : Type} {f : α → Bool} {l : List α} : ((l.map fun c => f c).all id) = l.all f := by
  rw [List.all_map]; rfl
theorem take_snoc {α : Type} {l : List α} {i : Nat} {x : α} (h : l[i]? = some x) : l.take (i + 1) = l.take i ++ [x] := by
  rw [List.take_add_one, h]; rfl
section
variable {P : Program} {w : World} {K : PySem.W.Frag} {mg : Str → Option Value} {base : Heap} {tL t1 t2 : Tok}
theorem ok_is_name {f : Addr} {fd : FuncData} (D : Df K mg "is_name" s_is_name ["value"] f fd) (T : Bt mg tL t1 t2) : FnOk P w K mg base CX0 1 f fd ["value"] (spD (fun _ => True) nameD) := by
  refine D.F.ok sc_is_name (fun vs H Q E h => ?_) (fun cdv A outer s H vs Q E hr h => ?_)
  · obtain ⟨a, m, rfl, _⟩ := h
    rfl
  · obtain ⟨v, d, rfl, hd, sz, _, q⟩ := h
    have hu := hu_of hr
    refine ⟨_, (pss_cons (ps_if (pt_not (pt_val (pe_callB (id := "isinstance") (r := rIsi K) call_isi (by rfl) T.b_isinstance (by decide +kernel) (pa_cons (pv 0) (pa_cons (pe_bltn (v := .ty "str") (by rfl) T.b_str (by decide +kernel) rfl) pa_nil))))) (pss_one (ps_ret pe_bl)) pss_nil)
      (pss_one (ps_ret (pe_and (pe_chain op_le op_le pe_int (pe_callB (id := "len") call_len_str (by rfl) T.b_len PySem.boot_len (pa_cons (pv 0) pa_nil)) pe_int) (pe_one (pe_callB (id := "all") (r := rAll K) (cr_all rfl) (by rfl) T.b_all (by decide +kernel) (pa_cons (pe_lc (own := [("letter", 1)]) (g := (gName 1)) (tt := tYes) rfl sc_is_name.nd (pi_str (pv 0)) (blkOk_by (N := ["value", "letter"]) (sc := defScope s_is_name) (by decide +kernel)) (fun _ _ _ _ _ => (pg_name (i := 1) sc_is_name.nd rfl (Or.inl rfl))) (fun _ _ _ _ _ => pts_nil) (fun _ _ _ _ _ => (pe_cmpR op_in_sign (pv 1) (pe_glob (v := .str lets) rfl T.c_LETTERS ⟨_, rfl⟩) (by rfl)))) pa_nil))))))), ?_⟩
    try simp (maxSteps := 1000000) only [tSeq, tIfS, tTest, tOp, tUn, tCB, tCons, tNil, tVar, tC, rI0, rI, rU, rEq, rNe, tRet, tRetN, tAsg, gName, gSub, tBM, tBM0, tNext, tB, tNot, tAnd, tOr, tIf, tCall, tDrop, tBreak, tCont, L2.start, tDGet, sDPut, tTup, tLst, tDNewK, tRevL, rCat, rAppend, rPop, rSetL, tAndV, tOrV, tNotV, tSl, tPart, tNoPart, tM1, gTup, gCons, gNil, cxK, cxnK, List.map_cons, List.map_nil, List.length_cons, List.length_nil, List.replicate, List.cons_append, List.nil_append, List.append_nil, List.set_cons_zero, List.set_cons_succ, List.getElem?_cons_zero, List.getElem?_cons_succ, Option.some.injEq, V.ref.injEq, V.int.injEq, V.str.injEq, V.bl.injEq, V.ty.injEq, exists_eq_left', exists_eq_left, exists_and_left, List.cons.injEq, and_true, true_and, sc_ii, sc_ss, sc_bb, sc_ni, sc_in, sc_is, sc_si, sc_nn, decide_true, decide_false, reduceCtorEq, Bool.false_eq_true, if_true, if_false, ite_true, ite_false, exists_const, eq_self, false_and, and_false, or_false, false_or, exists_false, Evl.rLenS, rSum, wipe, tYes, exists_eq, exists_eq', rIxL, rIxT, rIxS, exists_and_right, gt_iff_lt, not_true_eq_false, not_false_eq_true, Bool.not_true, Bool.not_false, decide_eq_true_eq, Nat.reduceSub, Nat.reduceAdd, List.append_assoc, tChain, tDIn, tDNotIn, sDDel, tAug, ipI]
    refine isi_Dstr hd ?_
    try simp (maxSteps := 1000000) only [tSeq, tIfS, tTest, tOp, tUn, tCB, tCons, tNil, tVar, tC, rI0, rI, rU, rEq, rNe, tRet, tRetN, tAsg, gName, gSub, tBM, tBM0, tNext, tB, tNot, tAnd, tOr, tIf, tCall, tDrop, tBreak, tCont, L2.start, tDGet, sDPut, tTup, tLst, tDNewK, tRevL, rCat, rAppend, rPop, rSetL, tAndV, tOrV, tNotV, tSl, tPart, tNoPart, tM1, gTup, gCons, gNil, cxK, cxnK, List.map_cons, List.map_nil, List.length_cons, List.length_nil, List.replicate, List.cons_append, List.nil_append, List.append_nil, List.set_cons_zero, List.set_cons_succ, List.getElem?_cons_zero, List.getElem?_cons_succ, Option.some.injEq, V.ref.injEq, V.int.injEq, V.str.injEq, V.bl.injEq, V.ty.injEq, exists_eq_left', exists_eq_left, exists_and_left, List.cons.injEq, and_true, true_and, sc_ii, sc_ss, sc_bb, sc_ni, sc_in, sc_is, sc_si, sc_nn, decide_true, decide_false, reduceCtorEq, Bool.false_eq_true, if_true, if_false, ite_true, ite_false, exists_const, eq_self, false_and, and_false, or_false, false_or, exists_false, Evl.rLenS, rSum, wipe, tYes, exists_eq, exists_eq', rIxL, rIxT, rIxS, exists_and_right, gt_iff_lt, not_true_eq_false, not_false_eq_true, Bool.not_true, Bool.not_false, decide_eq_true_eq, Nat.reduceSub, Nat.reduceAdd, List.append_assoc, tChain, tDIn, tDNotIn, sDDel, tAug, ipI]
    cases hd with
    | str z =>
      try simp (maxSteps := 1000000) only [tSeq, tIfS, tTest, tOp, tUn, tCB, tCons, tNil, tVar, tC, rI0, rI, rU, rEq, rNe, tRet, tRetN, tAsg, gName, gSub, tBM, tBM0, tNext, tB, tNot, tAnd, tOr, tIf, tCall, tDrop, tBreak, tCont, L2.start, tDGet, sDPut, tTup, tLst, tDNewK, tRevL, rCat, rAppend, rPop, rSetL, tAndV, tOrV, tNotV, tSl, tPart, tNoPart, tM1, gTup, gCons, gNil, cxK, cxnK, List.map_cons, List.map_nil, List.length_cons, List.length_nil, List.replicate, List.cons_append, List.nil_append, List.append_nil, List.set_cons_zero, List.set_cons_succ, List.getElem?_cons_zero, List.getElem?_cons_succ, Option.some.injEq, V.ref.injEq, V.int.injEq, V.str.injEq, V.bl.injEq, V.ty.injEq, exists_eq_left', exists_eq_left, exists_and_left, List.cons.injEq, and_true, true_and, sc_ii, sc_ss, sc_bb, sc_ni, sc_in, sc_is, sc_si, sc_nn, decide_true, decide_false, reduceCtorEq, Bool.false_eq_true, if_true, if_false, ite_true, ite_false, exists_const, eq_self, false_and, and_false, or_false, false_or, exists_false, Evl.rLenS, rSum, wipe, tYes, exists_eq, exists_eq', rIxL, rIxT, rIxS, exists_and_right, gt_iff_lt, not_true_eq_false, not_false_eq_true, Bool.not_true, Bool.not_false, decide_eq_true_eq, Nat.reduceSub, Nat.reduceAdd, List.append_assoc, tChain, tDIn, tDNotIn, sDDel, tAug, ipI, isStrD]
      have zs : z.cps.toList.length = z.length := Array.length_toList
      have zl : z.length ≤ 1000 := of_decide_eq_true sz
      have q' : ∀ H', Kp [] H H' → Q (.bl (nameS z)) H' := q
      unfold nameS at q'
      refine ⟨small (by omega), ?_⟩
      by_cases h1 : 1 ≤ z.length
      · by_cases h8 : z.length ≤ 8
        · have e1 : (1 : Int) ≤ (z.length : Nat) := by omega
          have e8 : ((z.length : Nat) : Int) ≤ 8 := by omega
          rw [decide_eq_true h1, decide_eq_true h8] at q'
          rw [if_pos e1, if_pos e8]
          refine ⟨.str z, rfl, z, rfl, fun o no => lc_it walk_str (LowIn z o H) ⟨upd_same, Kp.new no⟩ (fun _ _ _ _ => True.intro) ?_ ?_⟩
          · rintro i x H1 H2 hi ⟨ho, kp⟩ ⟨rfl, c, hc, rfl⟩
            try simp (maxSteps := 1000000) only [tSeq, tIfS, tTest, tOp, tUn, tCB, tCons, tNil, tVar, tC, rI0, rI, rU, rEq, rNe, tRet, tRetN, tAsg, gName, gSub, tBM, tBM0, tNext, tB, tNot, tAnd, tOr, tIf, tCall, tDrop, tBreak, tCont, L2.start, tDGet, sDPut, tTup, tLst, tDNewK, tRevL, rCat, rAppend, rPop, rSetL, tAndV, tOrV, tNotV, tSl, tPart, tNoPart, tM1, gTup, gCons, gNil, cxK, cxnK, List.map_cons, List.map_nil, List.length_cons, List.length_nil, List.replicate, List.cons_append, List.nil_append, List.append_nil, List.set_cons_zero, List.set_cons_succ, List.getElem?_cons_zero, List.getElem?_cons_succ, Option.some.injEq, V.ref.injEq, V.int.injEq, V.str.injEq, V.bl.injEq, V.ty.injEq, exists_eq_left', exists_eq_left, exists_and_left, List.cons.injEq, and_true, true_and, sc_ii, sc_ss, sc_bb, sc_ni, sc_in, sc_is, sc_si, sc_nn, decide_true, decide_false, reduceCtorEq, Bool.false_eq_true, if_true, if_false, ite_true, ite_false, exists_const, eq_self, false_and, and_false, or_false, false_or, exists_false, Evl.rLenS, rSum, wipe, tYes, exists_eq, exists_eq', rIxL, rIxT, rIxS, exists_and_right, gt_iff_lt, not_true_eq_false, not_false_eq_true, Bool.not_true, Bool.not_false, decide_eq_true_eq, Nat.reduceSub, Nat.reduceAdd, List.append_assoc, tChain, tDIn, tDNotIn, sDDel, tAug, ipI]
            refine ⟨c, rfl, _, ho, ?_, ?_, kp.wr no⟩
            · rw [List.length_map, List.length_take, zs]; exact smallL (by omega)
            · rw [upd_same, lets_mem, take_snoc (x := c) (by rw [← hc]; simp), List.map_append]; rfl
          · rintro H1 ⟨ho, kp⟩
            have q2 := q' H1 kp
            rw [← all_take] at q2
            refine ⟨_, z.cps.toList.map lowC, rfl, sq_l (ho.trans ?_), ?_⟩
            · rw [List.take_of_length_le (by simp), List.map_map]; rfl
            · simpa using q2
        · have e1 : (1 : Int) ≤ (z.length : Nat) := by omega
          have e8 : ¬ ((z.length : Nat) : Int) ≤ 8 := by omega
          rw [decide_eq_true h1, decide_eq_false h8] at q'
          rw [if_pos e1, if_neg e8]
          exact q' _ (Kp.refl _ _)
      · have e1 : ¬ (1 : Int) ≤ (z.length : Nat) := by omega
        rw [decide_eq_false h1] at q'
        rw [if_neg e1]
        exact q' _ (Kp.refl _ _)
    | _ => exact q H (Kp.refl _ _)

def spBelow : Sp := fun vs H Q _ => ∃ (v : V) (d : PyData) (m : Int), vs = [v, .int m] ∧ Dq H v d ∧ Q (.bl (belowD m d)) H
theorem ok_is_below {f : Addr} {fd : FuncData} (D : Df K mg "is_below" s_is_below ["value", "bound"] f fd) (T : Bt mg tL t1 t2) : FnOk P w K mg base CX0 1 f fd ["value", "bound"] spBelow := by
  refine D.F.ok sc_is_below (fun vs H Q E h => ?_) (fun cdv A outer s H vs Q E hr h => ?_)
  · obtain ⟨v, d, m, rfl, _⟩ := h
    rfl
  · obtain ⟨v, d, m, rfl, hd, q⟩ := h
    refine ⟨_, (pss_one (ps_ret (pe_and (pe_callB (id := "isinstance") (r := rIsi K) call_isi (by rfl) T.b_isinstance (by decide +kernel) (pa_cons (pv 0) (pa_cons (pe_bltn (v := .ty "int") (by rfl) T.b_int (by decide +kernel) rfl) pa_nil))) (pe_and (pe_not (pe_callB (id := "isinstance") (r := rIsi K) call_isi (by rfl) T.b_isinstance (by decide +kernel) (pa_cons (pv 0) (pa_cons (pe_bltn (v := .ty "bool") (by rfl) T.b_bool (by decide +kernel) rfl) pa_nil)))) (pe_one (pe_chain op_le op_lt pe_int (pv 0) (pv 1))))))), ?_⟩
    try simp (maxSteps := 1000000) only [tSeq, tIfS, tTest, tOp, tUn, tCB, tCons, tNil, tVar, tC, rI0, rI, rU, rEq, rNe, tRet, tRetN, tAsg, gName, gSub, tBM, tBM0, tNext, tB, tNot, tAnd, tOr, tIf, tCall, tDrop, tBreak, tCont, L2.start, tDGet, sDPut, tTup, tLst, tDNewK, tRevL, rCat, rAppend, rPop, rSetL, tAndV, tOrV, tNotV, tSl, tPart, tNoPart, tM1, gTup, gCons, gNil, cxK, cxnK, List.map_cons, List.map_nil, List.length_cons, List.length_nil, List.replicate, List.cons_append, List.nil_append, List.append_nil, List.set_cons_zero, List.set_cons_succ, List.getElem?_cons_zero, List.getElem?_cons_succ, Option.some.injEq, V.ref.injEq, V.int.injEq, V.str.injEq, V.bl.injEq, V.ty.injEq, exists_eq_left', exists_eq_left, exists_and_left, List.cons.injEq, and_true, true_and, sc_ii, sc_ss, sc_bb, sc_ni, sc_in, sc_is, sc_si, sc_nn, decide_true, decide_false, reduceCtorEq, Bool.false_eq_true, if_true, if_false, ite_true, ite_false, exists_const, eq_self, false_and, and_false, or_false, false_or, exists_false, Evl.rLenS, rSum, wipe, tYes, exists_eq, exists_eq', rIxL, rIxT, rIxS, exists_and_right, gt_iff_lt, not_true_eq_false, not_false_eq_true, Bool.not_true, Bool.not_false, decide_eq_true_eq, Nat.reduceSub, Nat.reduceAdd, List.append_assoc, tChain, tDIn, tDNotIn, sDDel, tAug, ipI]
    refine isi_Dint hd ?_
    cases hd with
    | int i =>
      try simp (maxSteps := 1000000) only [tSeq, tIfS, tTest, tOp, tUn, tCB, tCons, tNil, tVar, tC, rI0, rI, rU, rEq, rNe, tRet, tRetN, tAsg, gName, gSub, tBM, tBM0, tNext, tB, tNot, tAnd, tOr, tIf, tCall, tDrop, tBreak, tCont, L2.start, tDGet, sDPut, tTup, tLst, tDNewK, tRevL, rCat, rAppend, rPop, rSetL, tAndV, tOrV, tNotV, tSl, tPart, tNoPart, tM1, gTup, gCons, gNil, cxK, cxnK, List.map_cons, List.map_nil, List.length_cons, List.length_nil, List.replicate, List.cons_append, List.nil_append, List.append_nil, List.set_cons_zero, List.set_cons_succ, List.getElem?_cons_zero, List.getElem?_cons_succ, Option.some.injEq, V.ref.injEq, V.int.injEq, V.str.injEq, V.bl.injEq, V.ty.injEq, exists_eq_left', exists_eq_left, exists_and_left, List.cons.injEq, and_true, true_and, sc_ii, sc_ss, sc_bb, sc_ni, sc_in, sc_is, sc_si, sc_nn, decide_true, decide_false, reduceCtorEq, Bool.false_eq_true, if_true, if_false, ite_true, ite_false, exists_const, eq_self, false_and, and_false, or_false, false_or, exists_false, Evl.rLenS, rSum, wipe, tYes, exists_eq, exists_eq', rIxL, rIxT, rIxS, exists_and_right, gt_iff_lt, not_true_eq_false, not_false_eq_true, Bool.not_true, Bool.not_false, decide_eq_true_eq, Nat.reduceSub, Nat.reduceAdd, List.append_assoc, tChain, tDIn, tDNotIn, sDDel, tAug, ipI, isIntD]
      refine isi_int_bool ?_
      try simp (maxSteps := 1000000) only [tSeq, tIfS, tTest, tOp, tUn, tCB, tCons, tNil, tVar, tC, rI0, rI, rU, rEq, rNe, tRet, tRetN, tAsg, gName, gSub, tBM, tBM0, tNext, tB, tNot, tAnd, tOr, tIf, tCall, tDrop, tBreak, tCont, L2.start, tDGet, sDPut, tTup, tLst, tDNewK, tRevL, rCat, rAppend, rPop, rSetL, tAndV, tOrV, tNotV, tSl, tPart, tNoPart, tM1, gTup, gCons, gNil, cxK, cxnK, List.map_cons, List.map_nil, List.length_cons, List.length_nil, List.replicate, List.cons_append, List.nil_append, List.append_nil, List.set_cons_zero, List.set_cons_succ, List.getElem?_cons_zero, List.getElem?_cons_succ, Option.some.injEq, V.ref.injEq, V.int.injEq, V.str.injEq, V.bl.injEq, V.ty.injEq, exists_eq_left', exists_eq_left, exists_and_left, List.cons.injEq, and_true, true_and, sc_ii, sc_ss, sc_bb, sc_ni, sc_in, sc_is, sc_si, sc_nn, decide_true, decide_false, reduceCtorEq, Bool.false_eq_true, if_true, if_false, ite_true, ite_false, exists_const, eq_self, false_and, and_false, or_false, false_or, exists_false, Evl.rLenS, rSum, wipe, tYes, exists_eq, exists_eq', rIxL, rIxT, rIxS, exists_and_right, gt_iff_lt, not_true_eq_false, not_false_eq_true, Bool.not_true, Bool.not_false, decide_eq_true_eq, Nat.reduceSub, Nat.reduceAdd, List.append_assoc, tChain, tDIn, tDNotIn, sDDel, tAug, ipI]
      by_cases h0 : 0 ≤ i
      · simp only [h0, decide_true, if_true]
        have q' : Q (.bl (decide (0 ≤ i) && decide (i < m))) H := q
        rw [decide_eq_true h0] at q'
        exact q'
      · simp only [h0, decide_false, Bool.false_eq_true, if_false]
        have q' : Q (.bl (decide (0 ≤ i) && decide (i < m))) H := q
        rw [decide_eq_false h0] at q'
        exact q'
    | bl b =>
      try simp (maxSteps := 1000000) only [tSeq, tIfS, tTest, tOp, tUn, tCB, tCons, tNil, tVar, tC, rI0, rI, rU, rEq, rNe, tRet, tRetN, tAsg, gName, gSub, tBM, tBM0, tNext, tB, tNot, tAnd, tOr, tIf, tCall, tDrop, tBreak, tCont, L2.start, tDGet, sDPut, tTup, tLst, tDNewK, tRevL, rCat, rAppend, rPop, rSetL, tAndV, tOrV, tNotV, tSl, tPart, tNoPart, tM1, gTup, gCons, gNil, cxK, cxnK, List.map_cons, List.map_nil, List.length_cons, List.length_nil, List.replicate, List.cons_append, List.nil_append, List.append_nil, List.set_cons_zero, List.set_cons_succ, List.getElem?_cons_zero, List.getElem?_cons_succ, Option.some.injEq, V.ref.injEq, V.int.injEq, V.str.injEq, V.bl.injEq, V.ty.injEq, exists_eq_left', exists_eq_left, exists_and_left, List.cons.injEq, and_true, true_and, sc_ii, sc_ss, sc_bb, sc_ni, sc_in, sc_is, sc_si, sc_nn, decide_true, decide_false, reduceCtorEq, Bool.false_eq_true, if_true, if_false, ite_true, ite_false, exists_const, eq_self, false_and, and_false, or_false, false_or, exists_false, Evl.rLenS, rSum, wipe, tYes, exists_eq, exists_eq', rIxL, rIxT, rIxS, exists_and_right, gt_iff_lt, not_true_eq_false, not_false_eq_true, Bool.not_true, Bool.not_false, decide_eq_true_eq, Nat.reduceSub, Nat.reduceAdd, List.append_assoc, tChain, tDIn, tDNotIn, sDDel, tAug, ipI, isIntD]
      refine isi_bl_bool ?_
      try simp (maxSteps := 1000000) only [tSeq, tIfS, tTest, tOp, tUn, tCB, tCons, tNil, tVar, tC, rI0, rI, rU, rEq, rNe, tRet, tRetN, tAsg, gName, gSub, tBM, tBM0, tNext, tB, tNot, tAnd, tOr, tIf, tCall, tDrop, tBreak, tCont, L2.start, tDGet, sDPut, tTup, tLst, tDNewK, tRevL, rCat, rAppend, rPop, rSetL, tAndV, tOrV, tNotV, tSl, tPart, tNoPart, tM1, gTup, gCons, gNil, cxK, cxnK, List.map_cons, List.map_nil, List.length_cons, List.length_nil, List.replicate, List.cons_append, List.nil_append, List.append_nil, List.set_cons_zero, List.set_cons_succ, List.getElem?_cons_zero, List.getElem?_cons_succ, Option.some.injEq, V.ref.injEq, V.int.injEq, V.str.injEq, V.bl.injEq, V.ty.injEq, exists_eq_left', exists_eq_left, exists_and_left, List.cons.injEq, and_true, true_and, sc_ii, sc_ss, sc_bb, sc_ni, sc_in, sc_is, sc_si, sc_nn, decide_true, decide_false, reduceCtorEq, Bool.false_eq_true, if_true, if_false, ite_true, ite_false, exists_const, eq_self, false_and, and_false, or_false, false_or, exists_false, Evl.rLenS, rSum, wipe, tYes, exists_eq, exists_eq', rIxL, rIxT, rIxS, exists_and_right, gt_iff_lt, not_true_eq_false, not_false_eq_true, Bool.not_true, Bool.not_false, decide_eq_true_eq, Nat.reduceSub, Nat.reduceAdd, List.append_assoc, tChain, tDIn, tDNotIn, sDDel, tAug, ipI]
      exact q
    | _ =>
      try simp (maxSteps := 1000000) only [tSeq, tIfS, tTest, tOp, tUn, tCB, tCons, tNil, tVar, tC, rI0, rI, rU, rEq, rNe, tRet, tRetN, tAsg, gName, gSub, tBM, tBM0, tNext, tB, tNot, tAnd, tOr, tIf, tCall, tDrop, tBreak, tCont, L2.start, tDGet, sDPut, tTup, tLst, tDNewK, tRevL, rCat, rAppend, rPop, rSetL, tAndV, tOrV, tNotV, tSl, tPart, tNoPart, tM1, gTup, gCons, gNil, cxK, cxnK, List.map_cons, List.map_nil, List.length_cons, List.length_nil, List.replicate, List.cons_append, List.nil_append, List.append_nil, List.set_cons_zero, List.set_cons_succ, List.getElem?_cons_zero, List.getElem?_cons_succ, Option.some.injEq, V.ref.injEq, V.int.injEq, V.str.injEq, V.bl.injEq, V.ty.injEq, exists_eq_left', exists_eq_left, exists_and_left, List.cons.injEq, and_true, true_and, sc_ii, sc_ss, sc_bb, sc_ni, sc_in, sc_is, sc_si, sc_nn, decide_true, decide_false, reduceCtorEq, Bool.false_eq_true, if_true, if_false, ite_true, ite_false, exists_const, eq_self, false_and, and_false, or_false, false_or, exists_false, Evl.rLenS, rSum, wipe, tYes, exists_eq, exists_eq', rIxL, rIxT, rIxS, exists_and_right, gt_iff_lt, not_true_eq_false, not_false_eq_true, Bool.not_true, Bool.not_false, decide_eq_true_eq, Nat.reduceSub, Nat.reduceAdd, List.append_assoc, tChain, tDIn, tDNotIn, sDDel, tAug, ipI, isIntD]
      exact q
theorem ok_is_number {f : Addr} {fd : FuncData} (D : Df K mg "is_number" s_is_number ["value"] f fd) (T : Bt mg tL t1 t2) {fb : Addr} {fdb : FuncData} (D_is_below : Df K mg "is_below" s_is_below ["value", "bound"] fb fdb) (G_is_below : FnOk P w K mg base CX0 1 fb fdb ["value", "bound"] spBelow) :
    FnOk P w K mg base CX0 2 f fd ["value"] (spD (fun _ => True) (belowD 10)) := by
  refine D.F.ok sc_is_number (fun vs H Q E h => ?_) (fun cdv A outer s H vs Q E hr h => ?_)
  · obtain ⟨v, d, rfl, _⟩ := h
    rfl
  · obtain ⟨v, d, rfl, hd, _, _, q⟩ := h
    refine ⟨_, (pss_one (ps_ret (pe_call G_is_below (hr.mono (by decide)) rfl D_is_below.g D_is_below.F.kp D_is_below.b .nil pass0 (pa_cons (pv 0) (pa_cons pe_int pa_nil))))), ?_⟩
    try simp (maxSteps := 1000000) only [tSeq, tIfS, tTest, tOp, tUn, tCB, tCons, tNil, tVar, tC, rI0, rI, rU, rEq, rNe, tRet, tRetN, tAsg, gName, gSub, tBM, tBM0, tNext, tB, tNot, tAnd, tOr, tIf, tCall, tDrop, tBreak, tCont, L2.start, tDGet, sDPut, tTup, tLst, tDNewK, tRevL, rCat, rAppend, rPop, rSetL, tAndV, tOrV, tNotV, tSl, tPart, tNoPart, tM1, gTup, gCons, gNil, cxK, cxnK, List.map_cons, List.map_nil, List.length_cons, List.length_nil, List.replicate, List.cons_append, List.nil_append, List.append_nil, List.set_cons_zero, List.set_cons_succ, List.getElem?_cons_zero, List.getElem?_cons_succ, Option.some.injEq, V.ref.injEq, V.int.injEq, V.str.injEq, V.bl.injEq, V.ty.injEq, exists_eq_left', exists_eq_left, exists_and_left, List.cons.injEq, and_true, true_and, sc_ii, sc_ss, sc_bb, sc_ni, sc_in, sc_is, sc_si, sc_nn, decide_true, decide_false, reduceCtorEq, Bool.false_eq_true, if_true, if_false, ite_true, ite_false, exists_const, eq_self, false_and, and_false, or_false, false_or, exists_false, Evl.rLenS, rSum, wipe, tYes, exists_eq, exists_eq', rIxL, rIxT, rIxS, exists_and_right, gt_iff_lt, not_true_eq_false, not_false_eq_true, Bool.not_true, Bool.not_false, decide_eq_true_eq, Nat.reduceSub, Nat.reduceAdd, List.append_assoc, tChain, tDIn, tDNotIn, sDDel, tAug, ipI]
    exact ⟨v, d, 10, rfl, hd, q H (Kp.refl _ _)⟩
/-- ahead of the i-th item of a row of data: what was told of those before stands in the new list -/
def AllIn {α : Type} (g : α → Bool) (ds : List α) (D : Addr) (H : Hp) (i : Nat) (H' : Hp) : Prop := H' D = some (.lst ((ds.take i).map fun d => V.bl (g d))) ∧ Kp [] H H'
theorem allIn_step {α : Type} {g : α → Bool} {ds : List α} {D : Addr} {H H1 H2 : Hp} {i : Nat} {d : α} (hn : H D = none) (h : AllIn g ds D H i H1) (k : Kp [] H1 H2) (e : ds[i]? = some d) (hl : ds.length ≤ 1000) :
    ∃ acc, H2 D = some (.lst acc) ∧ acc.length < sizeLine ∧ AllIn g ds D H (i + 1) (upd H2 D (.lst (acc ++ [V.bl (g d)]))) := by
  refine ⟨_, k _ _ not0 h.1, ?_, ?_, (h.2.trans k).wr hn⟩
  · rw [List.length_map, List.length_take]; exact smallL (by omega)
  · rw [upd_same, take_snoc e, List.map_append]; rfl
theorem allIn_end {α : Type} {K : PySem.W.Frag} {g : α → Bool} {ds : List α} {D : Addr} {H H1 : Hp} {Q : VK} (h : AllIn g ds D H ds.length H1) (q : Q (.bl (ds.all g)) H1) : rAll K [.ref D] H1 Q := by
  refine ⟨D, ds.map g, rfl, sq_l (h.1.trans ?_), ?_⟩
  · rw [List.take_length, List.map_map]; rfl
  · rw [all_take]; exact q
/-! ### pairs and rows of a table -/
def pairD (m : Int) : PyData → Bool
  | .tuple [a, s] => belowD 10 a && belowD m s
  | _ => false
def rowD : PyData → Bool
  | .list ds => decide (1 ≤ ds.length) && (decide (ds.length ≤ 100) && ds.all (pairD ds.length))
  | _ => false
def spPairD : Sp := fun vs H Q _ => ∃ (v : V) (d : PyData) (m : Int), vs = [v, .int m] ∧ Dq H v d ∧ szD d = true ∧ ∀ H', Kp [] H H' → Q (.bl (pairD m d)) H'
theorem ok_is_pair {f : Addr} {fd : FuncData} (D : Df K mg "is_pair" s_is_pair ["pair", "size"] f fd) (T : Bt mg tL t1 t2) {fb : Addr} {fdb : FuncData} (D_is_number : Df K mg "is_number" s_is_number ["value"] fb fdb) (G_is_number : FnOk P w K mg base CX0 2 fb fdb ["value"] (spD (fun _ => True) (belowD 10)))
    {fl : Addr} {fdl : FuncData} (D_is_below : Df K mg "is_below" s_is_below ["value", "bound"] fl fdl) (G_is_below : FnOk P w K mg base CX0 1 fl fdl ["value", "bound"] spBelow) : FnOk P w K mg base CX0 3 f fd ["pair", "size"] spPairD := by
  refine D.F.ok sc_is_pair (fun vs H Q E h => ?_) (fun cdv A outer s H vs Q E hr h => ?_)
  · obtain ⟨v, d, m, rfl, _⟩ := h
    rfl
  · obtain ⟨v, d, m, rfl, hd, sz, q⟩ := h
    refine ⟨_, (pss_cons (ps_if (PW.pt (pw_or (pt_not (pt_val (pe_callB (id := "isinstance") (r := rIsi K) call_isi (by rfl) T.b_isinstance (by decide +kernel) (pa_cons (pv 0) (pa_cons (pe_bltn (v := .ty "tuple") (by rfl) T.b_tuple (by decide +kernel) rfl) pa_nil))))) (pw_or1 (pt_cmpR op_ne (pe_callB (id := "len") (r := Evl.rLenS K) call_len_seq (by rfl) T.b_len PySem.boot_len (pa_cons (pv 0) pa_nil)) pe_int (nomark _))))) (pss_one (ps_ret pe_bl)) pss_nil)
      (pss_cons (ps_asg (pv 0) (pg_tup (n := 2) (by rfl) (pgs_cons (pg_name (i := 2) sc_is_pair.nd rfl (Or.inl rfl)) (pgs_cons (pg_name (i := 3) sc_is_pair.nd rfl (Or.inl rfl)) pgs_nil))))
      (pss_one (ps_ret (pe_and (pe_call G_is_number (hr.mono (by decide)) rfl D_is_number.g D_is_number.F.kp D_is_number.b .nil pass0 (pa_cons (pv 2) pa_nil)) (pe_one (pe_call G_is_below (hr.mono (by decide)) rfl D_is_below.g D_is_below.F.kp D_is_below.b .nil pass0 (pa_cons (pv 3) (pa_cons (pv 1) pa_nil))))))))), ?_⟩
    try simp (maxSteps := 1000000) only [tSeq, tIfS, tTest, tOp, tUn, tCB, tCons, tNil, tVar, tC, rI0, rI, rU, rEq, rNe, tRet, tRetN, tAsg, gName, gSub, tBM, tBM0, tNext, tB, tNot, tAnd, tOr, tIf, tCall, tDrop, tBreak, tCont, L2.start, tDGet, sDPut, tTup, tLst, tDNewK, tRevL, rCat, rAppend, rPop, rSetL, tAndV, tOrV, tNotV, tSl, tPart, tNoPart, tM1, gTup, gCons, gNil, cxK, cxnK, List.map_cons, List.map_nil, List.length_cons, List.length_nil, List.replicate, List.cons_append, List.nil_append, List.append_nil, List.set_cons_zero, List.set_cons_succ, List.getElem?_cons_zero, List.getElem?_cons_succ, Option.some.injEq, V.ref.injEq, V.int.injEq, V.str.injEq, V.bl.injEq, V.ty.injEq, exists_eq_left', exists_eq_left, exists_and_left, List.cons.injEq, and_true, true_and, sc_ii, sc_ss, sc_bb, sc_ni, sc_in, sc_is, sc_si, sc_nn, decide_true, decide_false, reduceCtorEq, Bool.false_eq_true, if_true, if_false, ite_true, ite_false, exists_const, eq_self, false_and, and_false, or_false, false_or, exists_false, Evl.rLenS, rSum, wipe, tYes, exists_eq, exists_eq', rIxL, rIxT, rIxS, exists_and_right, gt_iff_lt, not_true_eq_false, not_false_eq_true, Bool.not_true, Bool.not_false, decide_eq_true_eq, Nat.reduceSub, Nat.reduceAdd, List.append_assoc, tChain, tDIn, tDNotIn, sDDel, tAug, ipI]
    refine isi_Dtup hd ?_
    cases hd with
    | @tup a xs ds e ha =>
      try simp (maxSteps := 1000000) only [tSeq, tIfS, tTest, tOp, tUn, tCB, tCons, tNil, tVar, tC, rI0, rI, rU, rEq, rNe, tRet, tRetN, tAsg, gName, gSub, tBM, tBM0, tNext, tB, tNot, tAnd, tOr, tIf, tCall, tDrop, tBreak, tCont, L2.start, tDGet, sDPut, tTup, tLst, tDNewK, tRevL, rCat, rAppend, rPop, rSetL, tAndV, tOrV, tNotV, tSl, tPart, tNoPart, tM1, gTup, gCons, gNil, cxK, cxnK, List.map_cons, List.map_nil, List.length_cons, List.length_nil, List.replicate, List.cons_append, List.nil_append, List.append_nil, List.set_cons_zero, List.set_cons_succ, List.getElem?_cons_zero, List.getElem?_cons_succ, Option.some.injEq, V.ref.injEq, V.int.injEq, V.str.injEq, V.bl.injEq, V.ty.injEq, exists_eq_left', exists_eq_left, exists_and_left, List.cons.injEq, and_true, true_and, sc_ii, sc_ss, sc_bb, sc_ni, sc_in, sc_is, sc_si, sc_nn, decide_true, decide_false, reduceCtorEq, Bool.false_eq_true, if_true, if_false, ite_true, ite_false, exists_const, eq_self, false_and, and_false, or_false, false_or, exists_false, Evl.rLenS, rSum, wipe, tYes, exists_eq, exists_eq', rIxL, rIxT, rIxS, exists_and_right, gt_iff_lt, not_true_eq_false, not_false_eq_true, Bool.not_true, Bool.not_false, decide_eq_true_eq, Nat.reduceSub, Nat.reduceAdd, List.append_assoc, tChain, tDIn, tDNotIn, sDDel, tAug, ipI, isTupD]
      have hl := ha.len
      refine ⟨xs, .inr (sq_t e), ?_⟩
      rw [hl]
      by_cases h2 : ds.length = 2
      · obtain ⟨da, db, rfl⟩ : ∃ a b, ds = [a, b] := by
          match ds, h2 with
          | [a, b], _ => exact ⟨a, b, rfl⟩
        cases ha with
        | cons h1 ht =>
        cases ht with
        | cons h3 ht =>
        cases ht
        have q' : ∀ H', Kp [] H H' → Q (.bl (belowD 10 da && belowD m db)) H' := q
        have e2 : (((2 : Nat) : Int) = 2) = True := eq_true rfl
        try simp (maxSteps := 1000000) only [tSeq, tIfS, tTest, tOp, tUn, tCB, tCons, tNil, tVar, tC, rI0, rI, rU, rEq, rNe, tRet, tRetN, tAsg, gName, gSub, tBM, tBM0, tNext, tB, tNot, tAnd, tOr, tIf, tCall, tDrop, tBreak, tCont, L2.start, tDGet, sDPut, tTup, tLst, tDNewK, tRevL, rCat, rAppend, rPop, rSetL, tAndV, tOrV, tNotV, tSl, tPart, tNoPart, tM1, gTup, gCons, gNil, cxK, cxnK, List.map_cons, List.map_nil, List.length_cons, List.length_nil, List.replicate, List.cons_append, List.nil_append, List.append_nil, List.set_cons_zero, List.set_cons_succ, List.getElem?_cons_zero, List.getElem?_cons_succ, Option.some.injEq, V.ref.injEq, V.int.injEq, V.str.injEq, V.bl.injEq, V.ty.injEq, exists_eq_left', exists_eq_left, exists_and_left, List.cons.injEq, and_true, true_and, sc_ii, sc_ss, sc_bb, sc_ni, sc_in, sc_is, sc_si, sc_nn, decide_true, decide_false, reduceCtorEq, Bool.false_eq_true, if_true, if_false, ite_true, ite_false, exists_const, eq_self, false_and, and_false, or_false, false_or, exists_false, Evl.rLenS, rSum, wipe, tYes, exists_eq, exists_eq', rIxL, rIxT, rIxS, exists_and_right, gt_iff_lt, not_true_eq_false, not_false_eq_true, Bool.not_true, Bool.not_false, decide_eq_true_eq, Nat.reduceSub, Nat.reduceAdd, List.append_assoc, tChain, tDIn, tDNotIn, sDDel, tAug, ipI, e2]
        refine ⟨_, sq_t e, rfl, _, _, rfl, _, _, rfl, rfl, ?_⟩
        refine ⟨_, da, rfl, h1, szAll_mem sz da (by simp), True.intro, fun H1 k1 => ?_⟩
        cases hn : belowD 10 da with
        | false =>
          rw [hn] at q'
          try simp (maxSteps := 1000000) only [tSeq, tIfS, tTest, tOp, tUn, tCB, tCons, tNil, tVar, tC, rI0, rI, rU, rEq, rNe, tRet, tRetN, tAsg, gName, gSub, tBM, tBM0, tNext, tB, tNot, tAnd, tOr, tIf, tCall, tDrop, tBreak, tCont, L2.start, tDGet, sDPut, tTup, tLst, tDNewK, tRevL, rCat, rAppend, rPop, rSetL, tAndV, tOrV, tNotV, tSl, tPart, tNoPart, tM1, gTup, gCons, gNil, cxK, cxnK, List.map_cons, List.map_nil, List.length_cons, List.length_nil, List.replicate, List.cons_append, List.nil_append, List.append_nil, List.set_cons_zero, List.set_cons_succ, List.getElem?_cons_zero, List.getElem?_cons_succ, Option.some.injEq, V.ref.injEq, V.int.injEq, V.str.injEq, V.bl.injEq, V.ty.injEq, exists_eq_left', exists_eq_left, exists_and_left, List.cons.injEq, and_true, true_and, sc_ii, sc_ss, sc_bb, sc_ni, sc_in, sc_is, sc_si, sc_nn, decide_true, decide_false, reduceCtorEq, Bool.false_eq_true, if_true, if_false, ite_true, ite_false, exists_const, eq_self, false_and, and_false, or_false, false_or, exists_false, Evl.rLenS, rSum, wipe, tYes, exists_eq, exists_eq', rIxL, rIxT, rIxS, exists_and_right, gt_iff_lt, not_true_eq_false, not_false_eq_true, Bool.not_true, Bool.not_false, decide_eq_true_eq, Nat.reduceSub, Nat.reduceAdd, List.append_assoc, tChain, tDIn, tDNotIn, sDDel, tAug, ipI]
          exact q' _ k1
        | true =>
          rw [hn] at q'
          try simp (maxSteps := 1000000) only [tSeq, tIfS, tTest, tOp, tUn, tCB, tCons, tNil, tVar, tC, rI0, rI, rU, rEq, rNe, tRet, tRetN, tAsg, gName, gSub, tBM, tBM0, tNext, tB, tNot, tAnd, tOr, tIf, tCall, tDrop, tBreak, tCont, L2.start, tDGet, sDPut, tTup, tLst, tDNewK, tRevL, rCat, rAppend, rPop, rSetL, tAndV, tOrV, tNotV, tSl, tPart, tNoPart, tM1, gTup, gCons, gNil, cxK, cxnK, List.map_cons, List.map_nil, List.length_cons, List.length_nil, List.replicate, List.cons_append, List.nil_append, List.append_nil, List.set_cons_zero, List.set_cons_succ, List.getElem?_cons_zero, List.getElem?_cons_succ, Option.some.injEq, V.ref.injEq, V.int.injEq, V.str.injEq, V.bl.injEq, V.ty.injEq, exists_eq_left', exists_eq_left, exists_and_left, List.cons.injEq, and_true, true_and, sc_ii, sc_ss, sc_bb, sc_ni, sc_in, sc_is, sc_si, sc_nn, decide_true, decide_false, reduceCtorEq, Bool.false_eq_true, if_true, if_false, ite_true, ite_false, exists_const, eq_self, false_and, and_false, or_false, false_or, exists_false, Evl.rLenS, rSum, wipe, tYes, exists_eq, exists_eq', rIxL, rIxT, rIxS, exists_and_right, gt_iff_lt, not_true_eq_false, not_false_eq_true, Bool.not_true, Bool.not_false, decide_eq_true_eq, Nat.reduceSub, Nat.reduceAdd, List.append_assoc, tChain, tDIn, tDNotIn, sDDel, tAug, ipI]
          exact ⟨_, db, m, rfl, h3.kp k1, q' _ k1⟩
      · have e2 : ((ds.length : Nat) : Int) ≠ 2 := by omega
        have qf : pairD m (.tuple ds) = false := by
          match ds, h2 with
          | [], _ => rfl
          | [_], _ => rfl
          | _ :: _ :: _ :: _, _ => rfl
        rw [qf] at q
        try simp (maxSteps := 1000000) only [tSeq, tIfS, tTest, tOp, tUn, tCB, tCons, tNil, tVar, tC, rI0, rI, rU, rEq, rNe, tRet, tRetN, tAsg, gName, gSub, tBM, tBM0, tNext, tB, tNot, tAnd, tOr, tIf, tCall, tDrop, tBreak, tCont, L2.start, tDGet, sDPut, tTup, tLst, tDNewK, tRevL, rCat, rAppend, rPop, rSetL, tAndV, tOrV, tNotV, tSl, tPart, tNoPart, tM1, gTup, gCons, gNil, cxK, cxnK, List.map_cons, List.map_nil, List.length_cons, List.length_nil, List.replicate, List.cons_append, List.nil_append, List.append_nil, List.set_cons_zero, List.set_cons_succ, List.getElem?_cons_zero, List.getElem?_cons_succ, Option.some.injEq, V.ref.injEq, V.int.injEq, V.str.injEq, V.bl.injEq, V.ty.injEq, exists_eq_left', exists_eq_left, exists_and_left, List.cons.injEq, and_true, true_and, sc_ii, sc_ss, sc_bb, sc_ni, sc_in, sc_is, sc_si, sc_nn, decide_true, decide_false, reduceCtorEq, Bool.false_eq_true, if_true, if_false, ite_true, ite_false, exists_const, eq_self, false_and, and_false, or_false, false_or, exists_false, Evl.rLenS, rSum, wipe, tYes, exists_eq, exists_eq', rIxL, rIxT, rIxS, exists_and_right, gt_iff_lt, not_true_eq_false, not_false_eq_true, Bool.not_true, Bool.not_false, decide_eq_true_eq, Nat.reduceSub, Nat.reduceAdd, List.append_assoc, tChain, tDIn, tDNotIn, sDDel, tAug, ipI, e2]
        exact q _ (Kp.refl _ _)
    | _ =>
      try simp (maxSteps := 1000000) only [tSeq, tIfS, tTest, tOp, tUn, tCB, tCons, tNil, tVar, tC, rI0, rI, rU, rEq, rNe, tRet, tRetN, tAsg, gName, gSub, tBM, tBM0, tNext, tB, tNot, tAnd, tOr, tIf, tCall, tDrop, tBreak, tCont, L2.start, tDGet, sDPut, tTup, tLst, tDNewK, tRevL, rCat, rAppend, rPop, rSetL, tAndV, tOrV, tNotV, tSl, tPart, tNoPart, tM1, gTup, gCons, gNil, cxK, cxnK, List.map_cons, List.map_nil, List.length_cons, List.length_nil, List.replicate, List.cons_append, List.nil_append, List.append_nil, List.set_cons_zero, List.set_cons_succ, List.getElem?_cons_zero, List.getElem?_cons_succ, Option.some.injEq, V.ref.injEq, V.int.injEq, V.str.injEq, V.bl.injEq, V.ty.injEq, exists_eq_left', exists_eq_left, exists_and_left, List.cons.injEq, and_true, true_and, sc_ii, sc_ss, sc_bb, sc_ni, sc_in, sc_is, sc_si, sc_nn, decide_true, decide_false, reduceCtorEq, Bool.false_eq_true, if_true, if_false, ite_true, ite_false, exists_const, eq_self, false_and, and_false, or_false, false_or, exists_false, Evl.rLenS, rSum, wipe, tYes, exists_eq, exists_eq', rIxL, rIxT, rIxS, exists_and_right, gt_iff_lt, not_true_eq_false, not_false_eq_true, Bool.not_true, Bool.not_false, decide_eq_true_eq, Nat.reduceSub, Nat.reduceAdd, List.append_assoc, tChain, tDIn, tDNotIn, sDDel, tAug, ipI, isTupD]
      exact q _ (Kp.refl _ _)
theorem ok_is_row {f : Addr} {fd : FuncData} (D : Df K mg "is_row" s_is_row ["row"] f fd) (T : Bt mg tL t1 t2) {fb : Addr} {fdb : FuncData} (D_is_pair : Df K mg "is_pair" s_is_pair ["pair", "size"] fb fdb) (G_is_pair : FnOk P w K mg base CX0 3 fb fdb ["pair", "size"] spPairD) : FnOk P w K mg base CX0 4 f fd ["row"] (spD (fun d => ∀ ds, d = .list ds → ds.length ≤ 1000) rowD) := by
  refine D.F.ok sc_is_row (fun vs H Q E h => ?_) (fun cdv A outer s H vs Q E hr h => ?_)
  · obtain ⟨v, d, rfl, _⟩ := h
    rfl
  · obtain ⟨v, d, rfl, hd, sz, pre, q⟩ := h
    refine ⟨_, (pss_cons (ps_if (PW.pt (pw_or (pt_not (pt_val (pe_callB (id := "isinstance") (r := rIsi K) call_isi (by rfl) T.b_isinstance (by decide +kernel) (pa_cons (pv 0) (pa_cons (pe_bltn (v := .ty "list") (by rfl) T.b_list (by decide +kernel) rfl) pa_nil))))) (pw_or1 (pt_not (pt_chain op_le op_le pe_int (pe_callB (id := "len") (r := Evl.rLenS K) call_len_seq (by rfl) T.b_len PySem.boot_len (pa_cons (pv 0) pa_nil)) (pe_glob (v := .int 100) rfl T.c_MOST_STATES ⟨_, rfl⟩)))))) (pss_one (ps_ret pe_bl)) pss_nil)
      (pss_one (ps_ret (pe_callB (id := "all") (r := rAll K) (cr_all rfl) (by rfl) T.b_all (by decide +kernel) (pa_cons (pe_lc (own := [("pair", 1)]) (g := (gName 1)) (tt := tYes) rfl sc_is_row.nd (pi_list (pv 0)) (blkOk_by (N := ["row", "pair"]) (sc := defScope s_is_row) (by decide +kernel)) (fun _ _ _ _ _ => (pg_name (i := 1) sc_is_row.nd rfl (Or.inl rfl))) (fun _ _ _ _ _ => pts_nil) (fun _ _ _ _ _ => (pe_call G_is_pair (hr.mono (by decide)) rfl D_is_pair.g D_is_pair.F.kp D_is_pair.b .nil pass0 (pa_cons (pv 1) (pa_cons (pe_callB (id := "len") (r := Evl.rLenS K) call_len_seq (by rfl) T.b_len PySem.boot_len (pa_cons (pv 0) pa_nil)) pa_nil))))) pa_nil))))), ?_⟩
    try simp (maxSteps := 1000000) only [tSeq, tIfS, tTest, tOp, tUn, tCB, tCons, tNil, tVar, tC, rI0, rI, rU, rEq, rNe, tRet, tRetN, tAsg, gName, gSub, tBM, tBM0, tNext, tB, tNot, tAnd, tOr, tIf, tCall, tDrop, tBreak, tCont, L2.start, tDGet, sDPut, tTup, tLst, tDNewK, tRevL, rCat, rAppend, rPop, rSetL, tAndV, tOrV, tNotV, tSl, tPart, tNoPart, tM1, gTup, gCons, gNil, cxK, cxnK, List.map_cons, List.map_nil, List.length_cons, List.length_nil, List.replicate, List.cons_append, List.nil_append, List.append_nil, List.set_cons_zero, List.set_cons_succ, List.getElem?_cons_zero, List.getElem?_cons_succ, Option.some.injEq, V.ref.injEq, V.int.injEq, V.str.injEq, V.bl.injEq, V.ty.injEq, exists_eq_left', exists_eq_left, exists_and_left, List.cons.injEq, and_true, true_and, sc_ii, sc_ss, sc_bb, sc_ni, sc_in, sc_is, sc_si, sc_nn, decide_true, decide_false, reduceCtorEq, Bool.false_eq_true, if_true, if_false, ite_true, ite_false, exists_const, eq_self, false_and, and_false, or_false, false_or, exists_false, Evl.rLenS, rSum, wipe, tYes, exists_eq, exists_eq', rIxL, rIxT, rIxS, exists_and_right, gt_iff_lt, not_true_eq_false, not_false_eq_true, Bool.not_true, Bool.not_false, decide_eq_true_eq, Nat.reduceSub, Nat.reduceAdd, List.append_assoc, tChain, tDIn, tDNotIn, sDDel, tAug, ipI]
    refine isi_Dlst hd ?_
    cases hd with
    | @lst a xs ds e ha =>
      try simp (maxSteps := 1000000) only [tSeq, tIfS, tTest, tOp, tUn, tCB, tCons, tNil, tVar, tC, rI0, rI, rU, rEq, rNe, tRet, tRetN, tAsg, gName, gSub, tBM, tBM0, tNext, tB, tNot, tAnd, tOr, tIf, tCall, tDrop, tBreak, tCont, L2.start, tDGet, sDPut, tTup, tLst, tDNewK, tRevL, rCat, rAppend, rPop, rSetL, tAndV, tOrV, tNotV, tSl, tPart, tNoPart, tM1, gTup, gCons, gNil, cxK, cxnK, List.map_cons, List.map_nil, List.length_cons, List.length_nil, List.replicate, List.cons_append, List.nil_append, List.append_nil, List.set_cons_zero, List.set_cons_succ, List.getElem?_cons_zero, List.getElem?_cons_succ, Option.some.injEq, V.ref.injEq, V.int.injEq, V.str.injEq, V.bl.injEq, V.ty.injEq, exists_eq_left', exists_eq_left, exists_and_left, List.cons.injEq, and_true, true_and, sc_ii, sc_ss, sc_bb, sc_ni, sc_in, sc_is, sc_si, sc_nn, decide_true, decide_false, reduceCtorEq, Bool.false_eq_true, if_true, if_false, ite_true, ite_false, exists_const, eq_self, false_and, and_false, or_false, false_or, exists_false, Evl.rLenS, rSum, wipe, tYes, exists_eq, exists_eq', rIxL, rIxT, rIxS, exists_and_right, gt_iff_lt, not_true_eq_false, not_false_eq_true, Bool.not_true, Bool.not_false, decide_eq_true_eq, Nat.reduceSub, Nat.reduceAdd, List.append_assoc, tChain, tDIn, tDNotIn, sDDel, tAug, ipI, isLstD]
      have hl := ha.len
      have hb := pre ds rfl
      refine ⟨xs, .inl (sq_l e), ?_⟩
      rw [hl]
      have q' : ∀ H', Kp [] H H' → Q (.bl (decide (1 ≤ ds.length) && (decide (ds.length ≤ 100) && ds.all (pairD ds.length)))) H' := q
      by_cases h1 : 1 ≤ ds.length
      · by_cases h3 : ds.length ≤ 100
        · have e1 : (1 : Int) ≤ (ds.length : Nat) := by omega
          have e3 : ((ds.length : Nat) : Int) ≤ 100 := by omega
          rw [decide_eq_true h1, decide_eq_true h3] at q'
          try simp (maxSteps := 1000000) only [tSeq, tIfS, tTest, tOp, tUn, tCB, tCons, tNil, tVar, tC, rI0, rI, rU, rEq, rNe, tRet, tRetN, tAsg, gName, gSub, tBM, tBM0, tNext, tB, tNot, tAnd, tOr, tIf, tCall, tDrop, tBreak, tCont, L2.start, tDGet, sDPut, tTup, tLst, tDNewK, tRevL, rCat, rAppend, rPop, rSetL, tAndV, tOrV, tNotV, tSl, tPart, tNoPart, tM1, gTup, gCons, gNil, cxK, cxnK, List.map_cons, List.map_nil, List.length_cons, List.length_nil, List.replicate, List.cons_append, List.nil_append, List.append_nil, List.set_cons_zero, List.set_cons_succ, List.getElem?_cons_zero, List.getElem?_cons_succ, Option.some.injEq, V.ref.injEq, V.int.injEq, V.str.injEq, V.bl.injEq, V.ty.injEq, exists_eq_left', exists_eq_left, exists_and_left, List.cons.injEq, and_true, true_and, sc_ii, sc_ss, sc_bb, sc_ni, sc_in, sc_is, sc_si, sc_nn, decide_true, decide_false, reduceCtorEq, Bool.false_eq_true, if_true, if_false, ite_true, ite_false, exists_const, eq_self, false_and, and_false, or_false, false_or, exists_false, Evl.rLenS, rSum, wipe, tYes, exists_eq, exists_eq', rIxL, rIxT, rIxS, exists_and_right, gt_iff_lt, not_true_eq_false, not_false_eq_true, Bool.not_true, Bool.not_false, decide_eq_true_eq, Nat.reduceSub, Nat.reduceAdd, List.append_assoc, tChain, tDIn, tDNotIn, sDDel, tAug, ipI, e1, e3]
          refine ⟨.ref a, rfl, a, rfl, ⟨_, sq_l e⟩, fun o no => lc_list (xs := xs) (AllIn (pairD ds.length) ds o H) ⟨upd_same, Kp.new no⟩ (fun i H1 _ h => h.2.ls not0 (sq_l e)) ?_ ?_⟩
          · rintro i x H1 hx h
            obtain ⟨d, ed, hdx⟩ := ha.get hx
            try simp (maxSteps := 1000000) only [tSeq, tIfS, tTest, tOp, tUn, tCB, tCons, tNil, tVar, tC, rI0, rI, rU, rEq, rNe, tRet, tRetN, tAsg, gName, gSub, tBM, tBM0, tNext, tB, tNot, tAnd, tOr, tIf, tCall, tDrop, tBreak, tCont, L2.start, tDGet, sDPut, tTup, tLst, tDNewK, tRevL, rCat, rAppend, rPop, rSetL, tAndV, tOrV, tNotV, tSl, tPart, tNoPart, tM1, gTup, gCons, gNil, cxK, cxnK, List.map_cons, List.map_nil, List.length_cons, List.length_nil, List.replicate, List.cons_append, List.nil_append, List.append_nil, List.set_cons_zero, List.set_cons_succ, List.getElem?_cons_zero, List.getElem?_cons_succ, Option.some.injEq, V.ref.injEq, V.int.injEq, V.str.injEq, V.bl.injEq, V.ty.injEq, exists_eq_left', exists_eq_left, exists_and_left, List.cons.injEq, and_true, true_and, sc_ii, sc_ss, sc_bb, sc_ni, sc_in, sc_is, sc_si, sc_nn, decide_true, decide_false, reduceCtorEq, Bool.false_eq_true, if_true, if_false, ite_true, ite_false, exists_const, eq_self, false_and, and_false, or_false, false_or, exists_false, Evl.rLenS, rSum, wipe, tYes, exists_eq, exists_eq', rIxL, rIxT, rIxS, exists_and_right, gt_iff_lt, not_true_eq_false, not_false_eq_true, Bool.not_true, Bool.not_false, decide_eq_true_eq, Nat.reduceSub, Nat.reduceAdd, List.append_assoc, tChain, tDIn, tDNotIn, sDDel, tAug, ipI]
            refine ⟨xs, .inl (h.2.ls not0 (sq_l e)), x, d, ds.length, by rw [hl], hdx.kp h.2, szAll_mem sz d (List.mem_of_getElem? ed), fun H2 k2 => allIn_step no h k2 ed (by omega)⟩
          · intro H1 h
            rw [hl] at h
            exact allIn_end h (q' _ h.2)
        · have e1 : (1 : Int) ≤ (ds.length : Nat) := by omega
          have e3 : ¬ ((ds.length : Nat) : Int) ≤ 100 := by omega
          rw [decide_eq_true h1, decide_eq_false h3] at q'
          try simp (maxSteps := 1000000) only [tSeq, tIfS, tTest, tOp, tUn, tCB, tCons, tNil, tVar, tC, rI0, rI, rU, rEq, rNe, tRet, tRetN, tAsg, gName, gSub, tBM, tBM0, tNext, tB, tNot, tAnd, tOr, tIf, tCall, tDrop, tBreak, tCont, L2.start, tDGet, sDPut, tTup, tLst, tDNewK, tRevL, rCat, rAppend, rPop, rSetL, tAndV, tOrV, tNotV, tSl, tPart, tNoPart, tM1, gTup, gCons, gNil, cxK, cxnK, List.map_cons, List.map_nil, List.length_cons, List.length_nil, List.replicate, List.cons_append, List.nil_append, List.append_nil, List.set_cons_zero, List.set_cons_succ, List.getElem?_cons_zero, List.getElem?_cons_succ, Option.some.injEq, V.ref.injEq, V.int.injEq, V.str.injEq, V.bl.injEq, V.ty.injEq, exists_eq_left', exists_eq_left, exists_and_left, List.cons.injEq, and_true, true_and, sc_ii, sc_ss, sc_bb, sc_ni, sc_in, sc_is, sc_si, sc_nn, decide_true, decide_false, reduceCtorEq, Bool.false_eq_true, if_true, if_false, ite_true, ite_false, exists_const, eq_self, false_and, and_false, or_false, false_or, exists_false, Evl.rLenS, rSum, wipe, tYes, exists_eq, exists_eq', rIxL, rIxT, rIxS, exists_and_right, gt_iff_lt, not_true_eq_false, not_false_eq_true, Bool.not_true, Bool.not_false, decide_eq_true_eq, Nat.reduceSub, Nat.reduceAdd, List.append_assoc, tChain, tDIn, tDNotIn, sDDel, tAug, ipI, e1, e3]
          exact q' _ (Kp.refl _ _)
      · have e1 : ¬ (1 : Int) ≤ (ds.length : Nat) := by omega
        rw [decide_eq_false h1] at q'
        try simp (maxSteps := 1000000) only [tSeq, tIfS, tTest, tOp, tUn, tCB, tCons, tNil, tVar, tC, rI0, rI, rU, rEq, rNe, tRet, tRetN, tAsg, gName, gSub, tBM, tBM0, tNext, tB, tNot, tAnd, tOr, tIf, tCall, tDrop, tBreak, tCont, L2.start, tDGet, sDPut, tTup, tLst, tDNewK, tRevL, rCat, rAppend, rPop, rSetL, tAndV, tOrV, tNotV, tSl, tPart, tNoPart, tM1, gTup, gCons, gNil, cxK, cxnK, List.map_cons, List.map_nil, List.length_cons, List.length_nil, List.replicate, List.cons_append, List.nil_append, List.append_nil, List.set_cons_zero, List.set_cons_succ, List.getElem?_cons_zero, List.getElem?_cons_succ, Option.some.injEq, V.ref.injEq, V.int.injEq, V.str.injEq, V.bl.injEq, V.ty.injEq, exists_eq_left', exists_eq_left, exists_and_left, List.cons.injEq, and_true, true_and, sc_ii, sc_ss, sc_bb, sc_ni, sc_in, sc_is, sc_si, sc_nn, decide_true, decide_false, reduceCtorEq, Bool.false_eq_true, if_true, if_false, ite_true, ite_false, exists_const, eq_self, false_and, and_false, or_false, false_or, exists_false, Evl.rLenS, rSum, wipe, tYes, exists_eq, exists_eq', rIxL, rIxT, rIxS, exists_and_right, gt_iff_lt, not_true_eq_false, not_false_eq_true, Bool.not_true, Bool.not_false, decide_eq_true_eq, Nat.reduceSub, Nat.reduceAdd, List.append_assoc, tChain, tDIn, tDNotIn, sDDel, tAug, ipI, e1]
        exact q' _ (Kp.refl _ _)
    | _ =>
      try simp (maxSteps := 1000000) only [tSeq, tIfS, tTest, tOp, tUn, tCB, tCons, tNil, tVar, tC, rI0, rI, rU, rEq, rNe, tRet, tRetN, tAsg, gName, gSub, tBM, tBM0, tNext, tB, tNot, tAnd, tOr, tIf, tCall, tDrop, tBreak, tCont, L2.start, tDGet, sDPut, tTup, tLst, tDNewK, tRevL, rCat, rAppend, rPop, rSetL, tAndV, tOrV, tNotV, tSl, tPart, tNoPart, tM1, gTup, gCons, gNil, cxK, cxnK, List.map_cons, List.map_nil, List.length_cons, List.length_nil, List.replicate, List.cons_append, List.nil_append, List.append_nil, List.set_cons_zero, List.set_cons_succ, List.getElem?_cons_zero, List.getElem?_cons_succ, Option.some.injEq, V.ref.injEq, V.int.injEq, V.str.injEq, V.bl.injEq, V.ty.injEq, exists_eq_left', exists_eq_left, exists_and_left, List.cons.injEq, and_true, true_and, sc_ii, sc_ss, sc_bb, sc_ni, sc_in, sc_is, sc_si, sc_nn, decide_true, decide_false, reduceCtorEq, Bool.false_eq_true, if_true, if_false, ite_true, ite_false, exists_const, eq_self, false_and, and_false, or_false, false_or, exists_false, Evl.rLenS, rSum, wipe, tYes, exists_eq, exists_eq', rIxL, rIxT, rIxS, exists_and_right, gt_iff_lt, not_true_eq_false, not_false_eq_true, Bool.not_true, Bool.not_false, decide_eq_true_eq, Nat.reduceSub, Nat.reduceAdd, List.append_assoc, tChain, tDIn, tDNotIn, sDDel, tAug, ipI, isLstD]
      exact q _ (Kp.refl _ _)
end
end My

set_option Elab.async false
set_option linter.all false
set_option maxRecDepth 100000
set_option maxHeartbeats 4000000
namespace My
open PySem L2 NdefX
def mtop (i j : Nat) : Stmt := match top i with
  | .ClassDef _ _ _ b _ _ _ _ _ _ _ => b.getD j (.Pass ⟨0, 0, 0, 0⟩)
  | _ => .Pass ⟨0, 0, 0, 0⟩
abbrev s_BadTable_init : Stmt := mtop 5 0
theorem sc_BadTable_init : NScope ["self", "name", "__class__"] ["self", "name"] ["__class__"] (defScope s_BadTable_init) := nscope_by (by decide +kernel)
/-- what stands of an own error with one field, and its __init__ -/
structure Er1 (P : Program) (w : World) (K : PySem.W.Frag) (mg : Str → Option Value) (base : Heap) (nm fld : Str) (C f : Addr) (fd : FuncData) (ps : List Str) (Pf : V → Prop) : Prop where
  k : mg nm = some (.ref C)
  ox : OexC K C
  ic : PySem.W.findIn K (.ref C) "__init__" = some (some (.ref f))
  ti : PySem.W.typeIn K (.ref f) = some (.type "function")
  b : Binds K fd ps []
  G : FnOk P w K mg base (L2.CX P w) 1 f fd ps (spErr1 C fld Pf)
section
variable {P : Program} {w : World} {K : PySem.W.Frag} {mg : Str → Option Value} {base : Heap} {CX : CXT} {tL t1 t2 : Tok}
theorem ok_BadTable_init {f cc cda C : Addr} {fd : FuncData} (F : FunX K "__init__" "BadTable.__init__" s_BadTable_init f fd cc cda C) (T : ErrC K C) (G : CodeF K P cda) (hsup : mg "super" = none) (n1 : PySem.W.findIn K (.ref C) "name" = some none) {Pf : V → Prop} :
    FnOk P w K mg base CX 1 f fd ["self", "name"] (spErr1 C "name" Pf) := by
  have F0 := F
  obtain ⟨oc, od, kV, doc, pm, an, ct, osl, hfd, lk, hcd⟩ := F0.ex
  obtain ⟨cl, cld, csl, hcc⟩ := F0.cell
  refine F.ok sc_BadTable_init (fun vs H Q E h => ?_) (fun A outer s H vs Q E hr h => ?_)
  · obtain ⟨a, v, rfl, _⟩ := h
    rfl
  · obtain ⟨a, v, rfl, hp, ha, q⟩ := h
    refine ⟨_, psat_cons (psat_sup T G lk (by rw [hfd]; rfl) hcc hsup rfl rfl rfl rfl rfl rfl rfl (pa_cons pe_str pa_nil) rfl rfl rfl rfl rfl) (pss_one (ps_ost (pv 0) (pv 1))), ?_⟩
    try simp (maxSteps := 1000000) only [tSeq, tIfS, tTest, tOp, tUn, tCB, tCons, tNil, tVar, tC, rI0, rI, rU, rEq, rNe, tRet, tRetN, tAsg, gName, gSub, tBM, tBM0, tNext, tB, tNot, tAnd, tOr, tIf, tCall, tDrop, tBreak, tCont, L2.start, tDGet, sDPut, tTup, tLst, tDNewK, tRevL, rCat, rAppend, rPop, rSetL, tAndV, tOrV, tNotV, tSl, tPart, tNoPart, tM1, gTup, gCons, gNil, cxK, cxnK, List.map_cons, List.map_nil, List.length_cons, List.length_nil, List.replicate, List.cons_append, List.nil_append, List.append_nil, List.set_cons_zero, List.set_cons_succ, List.getElem?_cons_zero, List.getElem?_cons_succ, Option.some.injEq, V.ref.injEq, V.int.injEq, V.str.injEq, V.bl.injEq, V.ty.injEq, exists_eq_left', exists_eq_left, exists_and_left, List.cons.injEq, and_true, true_and, sc_ii, sc_ss, sc_bb, sc_ni, sc_in, sc_is, sc_si, sc_nn, decide_true, decide_false, reduceCtorEq, Bool.false_eq_true, if_true, if_false, ite_true, ite_false, exists_const, eq_self, false_and, and_false, or_false, false_or, exists_false, Evl.rLenS, rSum, wipe, tYes, exists_eq, exists_eq', rIxL, rIxT, rIxS, exists_and_right, gt_iff_lt, not_true_eq_false, not_false_eq_true, Bool.not_true, Bool.not_false, decide_eq_true_eq, Nat.reduceSub, Nat.reduceAdd, List.append_assoc, tChain, tDIn, tDNotIn, sDDel, tAug, ipI, startF, tSupI, tOst]
    exact ⟨ha, by decide, ha, C, T.ox, n1, .inl ⟨ha, q⟩⟩
def RowsD (H : Hp) (kvs : List (Key × V)) (rs : List (Str × PyData)) : Prop := kvs.length = rs.length ∧ ∀ (i : Nat) (k : Key) (v : V), kvs[i]? = some (k, v) → ∃ n d, k = Sum.inr n ∧ rs[i]? = some (n, d) ∧ Dq H v d ∧ szD d = true ∧ (∀ ds, d = .list ds → ds.length ≤ 1000) ∧ n.length ≤ 1000
def lenD : PyData → Nat
  | .list ds => ds.length
  | _ => 0
def goodR (m : Nat) (p : Str × PyData) : Bool := nameS p.1 && (rowD p.2 && lenD p.2 == m)
def rowsBad (rs : List (Str × PyData)) : Option Str :=
  match rs with
  | [] => some ""
  | p :: r => if 7 ≤ (p :: r).length then some "" else ((p :: r).find? fun q => !goodR (lenD p.2) q).map (·.1)
mutual
theorem Dq.kpN {H H' : Hp} {S : List Addr} (k : Kp S H H') (hS : ∀ a ∈ S, ∀ xs, H a ≠ some (.tup xs) ∧ H a ≠ some (.lst xs)) : ∀ {d : PyData} {v : V}, Dq H v d → Dq H' v d
  | _, _, .non => .non
  | _, _, .bl b => .bl b
  | _, _, .int i => .int i
  | _, _, .str x => .str x
  | _, _, .lst e h => .lst (k _ _ (fun m => (hS _ m _).2 e) e) (DqAll.kpN k hS h)
  | _, _, .tup e h => .tup (k _ _ (fun m => (hS _ m _).1 e) e) (DqAll.kpN k hS h)
theorem DqAll.kpN {H H' : Hp} {S : List Addr} (k : Kp S H H') (hS : ∀ a ∈ S, ∀ xs, H a ≠ some (.tup xs) ∧ H a ≠ some (.lst xs)) : ∀ {ds : List PyData} {vs : List V}, DqAll H vs ds → DqAll H' vs ds
  | _, _, .nil => .nil
  | _, _, .cons h t => .cons (Dq.kpN k hS h) (DqAll.kpN k hS t)
end
theorem unl {H2 H' : Hp} {d : Addr} {u : HO} (k : Kp [d] H2 H') (e : H2 d = some u) : Kp [] H2 (upd H' d u) := fun b o _ eb => by
  by_cases z : b = d
  · rw [z, upd_same, ← e, ← z, eb]
  · rw [upd_ne z]; exact k b o (not1 z) eb
theorem find_first {α : Type} {f : α → Bool} {l : List α} {i : Nat} {x : α} (e : l[i]? = some x) (hx : f x = true) (h : ∀ j y, j < i → l[j]? = some y → f y = false) : l.find? f = some x := by
  induction l generalizing i with
  | nil => cases e
  | cons a r ih =>
    cases i with
    | zero => cases e; rw [List.find?_cons, hx]
    | succ i =>
      rw [List.find?_cons, h 0 a (by omega) rfl]
      exact ih e fun j y hj ey => h (j + 1) y (by omega) ey
def CkInv (d : Addr) (v0 : V) (od : Obj) (kvs : List (Key × V)) (rs : List (Str × PyData)) (m : Nat) (H2 : Hp) (i : Nat) (σ : L2.St) (H' : Hp) : Prop := ∃ c, σ = [some (.ref d), some v0, c] ∧ H' d = some (.frz od (.dK kvs)) ∧ Kp [d] H2 H' ∧ ∀ j p, j < i → rs[j]? = some p → (!goodR m p) = false
def spCheck (C : Addr) : Sp := fun vs H Q E => ∃ (d : Addr) (kvs : List (Key × V)) (rs : List (Str × PyData)), vs = [.ref d] ∧ H d = some (.dK kvs) ∧ RowsD H kvs rs ∧ (kvs.map (·.1)).Nodup ∧ kvs.length ≤ 1000 ∧ (rowsBad rs = none → ∀ H', Kp [] H H' → Q .non H') ∧
  (∀ nm, rowsBad rs = some nm → ∀ (e : Addr) (H' : Hp), H e = none → H' e = some (.xd [("name", .str nm)]) → Kp [] H H' → E (.ref C) (some e) H')
theorem ok_check_rows {f : Addr} {fd : FuncData} (D : Df K mg "check_rows" s_check_rows ["rows"] f fd) (T : Bt mg tL t1 t2) {BT fB : Addr} {fdB : FuncData} (E_BadTable : Er1 P w K mg base "BadTable" "name" BT fB fdB ["self", "name"] (fun _ => True)) {fa : Addr} {fda : FuncData} (D_is_name : Df K mg "is_name" s_is_name ["value"] fa fda) (G_is_name : FnOk P w K mg base CX0 1 fa fda ["value"] (spD (fun _ => True) nameD))
    {fr : Addr} {fdr : FuncData} (D_is_row : Df K mg "is_row" s_is_row ["row"] fr fdr) (G_is_row : FnOk P w K mg base CX0 4 fr fdr ["row"] (spD (fun d => ∀ ds, d = .list ds → ds.length ≤ 1000) rowD)) : FnOk P w K mg base (L2.CX P w) 5 f fd ["rows"] (spCheck BT) := by
  refine D.F.okX sc_check_rows (fun vs H Q E h => ?_) (fun cdv A outer s H vs Q E hr h => ?_)
  · obtain ⟨d, _, _, rfl, _⟩ := h
    rfl
  · obtain ⟨d, kvs, rs, rfl, hd, hrs, nd, kl, qG, qB⟩ := h
    have hu := hu_of hr
    refine ⟨_, (pss_cons (ps_if (pt_not (pt_chain op_le op_le pe_int (pe_callB call_lenD (by rfl) T.b_len PySem.boot_len (pa_cons (pv 0) pa_nil)) (pe_glob (v := .int 6) rfl T.c_MOST_OPERATIONS ⟨_, rfl⟩))) (pss_one (ps_raise rfl (takes_of rfl rfl rfl rfl) (pmk_oex E_BadTable.ox E_BadTable.ic E_BadTable.ti E_BadTable.G (hr.mono (by decide)) E_BadTable.b .nil passL rfl E_BadTable.k (pa_cons pe_str pa_nil)))) pss_nil)
      (pss_cons (ps_set (i := 1) sc_check_rows.nd rfl (Or.inl rfl) (pe_ix (r := rIxL K) ix_list (pe_callTy (T := "list") (r := rListV) (call_listV rfl) (by rfl) T.b_list (by decide +kernel) (pa_cons (pe_values (pv 0)) pa_nil)) pe_int (fun _ _ => rfl)))
      (pss_one (ps_lock (ps_for (passes_of rfl) rfl (pi_keys (pv 0)) (pg_name (i := 2) sc_check_rows.nd rfl (Or.inl rfl)) (pss_one (ps_if (PW.pt (pw_or (pt_not (pt_val (pe_call G_is_name (hr.mono (by decide)) rfl D_is_name.g D_is_name.F.kp D_is_name.b .nil pass0 (pa_cons (pv 2) pa_nil)))) (pw_or (pt_not (pt_val (pe_call G_is_row (hr.mono (by decide)) rfl D_is_row.g D_is_row.F.kp D_is_row.b .nil pass0 (pa_cons (pe_dget hu (pv 0) (pv 2) (fun _ _ => rfl)) pa_nil)))) (pw_or1 (pt_cmpR op_ne (pe_callB (id := "len") (r := Evl.rLenS K) call_len_seq (by rfl) T.b_len PySem.boot_len (pa_cons (pe_dget hu (pv 0) (pv 2) (fun _ _ => rfl)) pa_nil)) (pe_callB (id := "len") (r := Evl.rLenS K) call_len_seq (by rfl) T.b_len PySem.boot_len (pa_cons (pv 1) pa_nil)) (nomark _)))))) (pss_one (ps_raise rfl (takes_lock (takes_of rfl rfl rfl rfl)) (pmk_oex E_BadTable.ox E_BadTable.ic E_BadTable.ti E_BadTable.G (hr.mono (by decide)) E_BadTable.b .nil passL rfl E_BadTable.k (pa_cons (pv 2) pa_nil)))) pss_nil))))))), ?_⟩
    have err : ∀ (nm : Str) (H1 : Hp), Kp [] H H1 → rowsBad rs = some nm → ([V.str nm] : List V).length ≤ 1000 ∧ ∀ a, H1 a = none → spErr1 BT "name" (fun _ => True) (.ref a :: ([V.str nm] ++ [])) (upd H1 a (exo a BT none)) (fun v H2 => v = .non ∧ ∃ (d : Addr) (fs : List (Str × V)), H2 a = some (exo a BT (some d)) ∧ H2 d = some (exd d fs) ∧ H1 d = none ∧ E (.ref BT) (some d) (upd (del H2 a) d (.xd fs))) (fun _ _ _ => False) := fun nm H1 kp hb =>
      err1_made (P := fun _ => True) True.intro fun e H' ne he k => qB nm hb e H' (kp.free0 ne) he (kp.trans k)
    try simp (maxSteps := 1000000) only [tSeq, tIfS, tTest, tOp, tUn, tCB, tCons, tNil, tVar, tC, rI0, rI, rU, rEq, rNe, tRet, tRetN, tAsg, gName, gSub, tBM, tBM0, tNext, tB, tNot, tAnd, tOr, tIf, tCall, tDrop, tBreak, tCont, L2.start, tDGet, sDPut, tTup, tLst, tDNewK, tRevL, rCat, rAppend, rPop, rSetL, tAndV, tOrV, tNotV, tSl, tPart, tNoPart, tM1, gTup, gCons, gNil, cxK, cxnK, List.map_cons, List.map_nil, List.length_cons, List.length_nil, List.replicate, List.cons_append, List.nil_append, List.append_nil, List.set_cons_zero, List.set_cons_succ, List.getElem?_cons_zero, List.getElem?_cons_succ, Option.some.injEq, V.ref.injEq, V.int.injEq, V.str.injEq, V.bl.injEq, V.ty.injEq, exists_eq_left', exists_eq_left, exists_and_left, List.cons.injEq, and_true, true_and, sc_ii, sc_ss, sc_bb, sc_ni, sc_in, sc_is, sc_si, sc_nn, decide_true, decide_false, reduceCtorEq, Bool.false_eq_true, if_true, if_false, ite_true, ite_false, exists_const, eq_self, false_and, and_false, or_false, false_or, exists_false, Evl.rLenS, rSum, wipe, tYes, exists_eq, exists_eq', rIxL, rIxT, rIxS, exists_and_right, gt_iff_lt, not_true_eq_false, not_false_eq_true, Bool.not_true, Bool.not_false, decide_eq_true_eq, Nat.reduceSub, Nat.reduceAdd, List.append_assoc, tChain, tDIn, tDNotIn, sDDel, tAug, ipI]
    refine ⟨kvs, hd, ?_⟩
    have hlen := hrs.1
    cases hr0 : rs with
    | nil =>
      have z0 : kvs.length = 0 := by rw [hlen, hr0]; rfl
      rw [if_neg (by omega)]
      exact err "" H (Kp.refl _ _) (by rw [hr0]; rfl)
    | cons p0 rr =>
      have zl : kvs.length = rr.length + 1 := by rw [hlen, hr0]; rfl
      rw [if_pos (by omega)]
      by_cases h7 : 7 ≤ (p0 :: rr).length
      · have h7' : 7 ≤ rr.length + 1 := h7
        have e6 : ¬ ((kvs.length : Nat) : Int) ≤ 6 := by omega
        rw [decide_eq_false e6]
        exact err "" H (Kp.refl _ _) (by rw [hr0]; exact if_pos h7)
      · have h7' : rr.length + 1 < 7 := Nat.lt_of_not_le h7
        have e6 : ((kvs.length : Nat) : Int) ≤ 6 := by omega
        rw [decide_eq_true e6]
        have rb : rowsBad rs = ((p0 :: rr).find? fun q => !goodR (lenD p0.2) q).map (·.1) := by rw [hr0]; exact if_neg h7
        obtain ⟨⟨k0, v0⟩, kr, hk0⟩ : ∃ q r, kvs = q :: r := by
          cases kvs with
          | nil => simp at zl
          | cons q r => exact ⟨q, r, rfl⟩
        refine ⟨.ref d, rfl, d, kvs, rfl, hd, fun q nq => ?_⟩
        have hdq : (upd H q (viewO q d)) d = some (.dK kvs) := by rw [upd_ne (ne_of_none hd nq)]; exact hd
        refine ⟨q, d, kvs, rfl, upd_same, hdq, fun l nl => ⟨l, rfl, _, sq_l upd_same, v0, atI_of (by decide) (by rw [hk0]; rfl), ?_⟩⟩
        have k2 : Kp [] H (upd (upd H q (viewO q d)) l (.lst (kvs.map fun kv => kv.2))) := (Kp.new nq).trans (Kp.new nl)
        generalize upd (upd H q (viewO q d)) l (.lst (kvs.map fun kv => kv.2)) = H2 at k2 ⊢
        have hd2 := k2 _ _ not0 hd
        refine ⟨d, .dK kvs, hd2, True.intro, fun od => ?_⟩
        have nf : ∀ o v, (cxOf (L2.CX P w) P w K mg base ["rows", "first_row", "name"] "check_rows" (defScope s_check_rows) f cdv A outer s H E).H_0 d ≠ some (.frz o v) := fun o v z => by
          rw [show (cxOf (L2.CX P w) P w K mg base ["rows", "first_row", "name"] "check_rows" (defScope s_check_rows) f cdv A outer s H E).H_0 d = H d from rfl, hd] at z
          cases z
        have dno : ∀ a ∈ [d], ∀ xs, H2 a ≠ some (.tup xs) ∧ H2 a ≠ some (.lst xs) := fun a ha xs => by
          rw [List.mem_singleton.mp ha, hd2]
          exact ⟨fun z => (by cases z), fun z => (by cases z)⟩
        have kl0 : Kp [d] H2 (upd H2 d (.frz od (.dK kvs))) := (Kp.refl [d] _).put List.mem_cons_self
        refine ⟨.ref d, rfl, d, od, rfl, .inl ⟨kvs, upd_same, for_it walk_keys (CkInv d v0 od kvs rs (lenD p0.2) H2) ⟨_, rfl, upd_same, kl0, fun j p hj => absurd hj (by omega)⟩ (fun i σ H' _ h => by obtain ⟨_, _, e, _⟩ := h; exact e) ?_ ?_⟩⟩
        · rintro i x σ H3 H4 hi ⟨c, rfl, hf3, k3, hg⟩ ⟨rfl, k, v, ek, rfl⟩
          obtain ⟨n, dd, rfl, er, hq, szd, bnd, nl3⟩ := hrs.2 i k v ek
          have hq3 := (hq.kp k2).kpN k3 dno
          have bad : (!goodR (lenD p0.2) (n, dd)) = true → ∀ (H5 : Hp), Kp [] H4 H5 → rowsBad rs = some n := fun z H5 _ => by
            rw [rb, find_first (x := (n, dd)) (i := i) (by rw [← hr0]; exact er) z (fun j y hj ey => hg j y hj (by rw [hr0]; exact ey))]; rfl
          try simp (maxSteps := 1000000) only [tSeq, tIfS, tTest, tOp, tUn, tCB, tCons, tNil, tVar, tC, rI0, rI, rU, rEq, rNe, tRet, tRetN, tAsg, gName, gSub, tBM, tBM0, tNext, tB, tNot, tAnd, tOr, tIf, tCall, tDrop, tBreak, tCont, L2.start, tDGet, sDPut, tTup, tLst, tDNewK, tRevL, rCat, rAppend, rPop, rSetL, tAndV, tOrV, tNotV, tSl, tPart, tNoPart, tM1, gTup, gCons, gNil, cxK, cxnK, List.map_cons, List.map_nil, List.length_cons, List.length_nil, List.replicate, List.cons_append, List.nil_append, List.append_nil, List.set_cons_zero, List.set_cons_succ, List.getElem?_cons_zero, List.getElem?_cons_succ, Option.some.injEq, V.ref.injEq, V.int.injEq, V.str.injEq, V.bl.injEq, V.ty.injEq, exists_eq_left', exists_eq_left, exists_and_left, List.cons.injEq, and_true, true_and, sc_ii, sc_ss, sc_bb, sc_ni, sc_in, sc_is, sc_si, sc_nn, decide_true, decide_false, reduceCtorEq, Bool.false_eq_true, if_true, if_false, ite_true, ite_false, exists_const, eq_self, false_and, and_false, or_false, false_or, exists_false, Evl.rLenS, rSum, wipe, tYes, exists_eq, exists_eq', rIxL, rIxT, rIxS, exists_and_right, gt_iff_lt, not_true_eq_false, not_false_eq_true, Bool.not_true, Bool.not_false, decide_eq_true_eq, Nat.reduceSub, Nat.reduceAdd, List.append_assoc, tChain, tDIn, tDNotIn, sDDel, tAug, ipI]
          refine ⟨.str n, .str n, rfl, .str n, by simp [szD, nl3], True.intro, fun H5 k5 => ?_⟩
          have hf4 := k5 _ _ not0 hf3
          have errL : ∀ (H6 : Hp), Kp [] H4 H6 → (!goodR (lenD p0.2) (n, dd)) = true → tMkO BT (spErr1 BT "name" fun _ => True) [] (tCons (tVar 2) tNil) [some (.ref d), some v0, some (.str n)] H6 (fun cls d_1 H' => WLock (cxOf (L2.CX P w) P w K mg base ["rows", "first_row", "name"] "check_rows" (defScope s_check_rows) f cdv A outer s H E) (fun cls d x H => E cls d H) cls d_1 [some (.ref d), some v0, some (.str n)] H') := fun H6 k6 hb => by
            have hf6 := k6 _ _ not0 hf3
            have k36 : Kp [d] H2 H6 := k3.trans k6.of0
            have key := err1_made (C := BT) (f := "name") (P := fun _ => True) (v := .str n) (H1 := H6) (Q := fun cls d_1 H' => WLock (cxOf (L2.CX P w) P w K mg base ["rows", "first_row", "name"] "check_rows" (defScope s_check_rows) f cdv A outer s H E) (fun cls d x H => E cls d H) cls d_1 [some (.ref d), some v0, some (.str n)] H') True.intro (fun e H' ne he k => by
              have ed : e ≠ d := fun z => by rw [z, hf6] at ne; cases ne
              exact ⟨d, .dK kvs, od, k _ _ not0 hf6, nf, qB n (bad hb H6 k6) e _ ((k2.trans (unl k36 hd2)).free0 (by rw [upd_ne ed]; exact ne)) (by rw [upd_ne ed]; exact he) (k2.trans (unl (k36.trans k.of0) hd2))⟩)
            exact ⟨.str n, rfl, key⟩
          have en : nameD (.str n) = nameS n := rfl
          rw [en]
          cases hns : nameS n with
          | false =>
            try simp (maxSteps := 1000000) only [tSeq, tIfS, tTest, tOp, tUn, tCB, tCons, tNil, tVar, tC, rI0, rI, rU, rEq, rNe, tRet, tRetN, tAsg, gName, gSub, tBM, tBM0, tNext, tB, tNot, tAnd, tOr, tIf, tCall, tDrop, tBreak, tCont, L2.start, tDGet, sDPut, tTup, tLst, tDNewK, tRevL, rCat, rAppend, rPop, rSetL, tAndV, tOrV, tNotV, tSl, tPart, tNoPart, tM1, gTup, gCons, gNil, cxK, cxnK, List.map_cons, List.map_nil, List.length_cons, List.length_nil, List.replicate, List.cons_append, List.nil_append, List.append_nil, List.set_cons_zero, List.set_cons_succ, List.getElem?_cons_zero, List.getElem?_cons_succ, Option.some.injEq, V.ref.injEq, V.int.injEq, V.str.injEq, V.bl.injEq, V.ty.injEq, exists_eq_left', exists_eq_left, exists_and_left, List.cons.injEq, and_true, true_and, sc_ii, sc_ss, sc_bb, sc_ni, sc_in, sc_is, sc_si, sc_nn, decide_true, decide_false, reduceCtorEq, Bool.false_eq_true, if_true, if_false, ite_true, ite_false, exists_const, eq_self, false_and, and_false, or_false, false_or, exists_false, Evl.rLenS, rSum, wipe, tYes, exists_eq, exists_eq', rIxL, rIxT, rIxS, exists_and_right, gt_iff_lt, not_true_eq_false, not_false_eq_true, Bool.not_true, Bool.not_false, decide_eq_true_eq, Nat.reduceSub, Nat.reduceAdd, List.append_assoc, tChain, tDIn, tDNotIn, sDDel, tAug, ipI]
            exact errL H5 k5 (by unfold goodR; rw [hns]; rfl)
          | true =>
            try simp (maxSteps := 1000000) only [tSeq, tIfS, tTest, tOp, tUn, tCB, tCons, tNil, tVar, tC, rI0, rI, rU, rEq, rNe, tRet, tRetN, tAsg, gName, gSub, tBM, tBM0, tNext, tB, tNot, tAnd, tOr, tIf, tCall, tDrop, tBreak, tCont, L2.start, tDGet, sDPut, tTup, tLst, tDNewK, tRevL, rCat, rAppend, rPop, rSetL, tAndV, tOrV, tNotV, tSl, tPart, tNoPart, tM1, gTup, gCons, gNil, cxK, cxnK, List.map_cons, List.map_nil, List.length_cons, List.length_nil, List.replicate, List.cons_append, List.nil_append, List.append_nil, List.set_cons_zero, List.set_cons_succ, List.getElem?_cons_zero, List.getElem?_cons_succ, Option.some.injEq, V.ref.injEq, V.int.injEq, V.str.injEq, V.bl.injEq, V.ty.injEq, exists_eq_left', exists_eq_left, exists_and_left, List.cons.injEq, and_true, true_and, sc_ii, sc_ss, sc_bb, sc_ni, sc_in, sc_is, sc_si, sc_nn, decide_true, decide_false, reduceCtorEq, Bool.false_eq_true, if_true, if_false, ite_true, ite_false, exists_const, eq_self, false_and, and_false, or_false, false_or, exists_false, Evl.rLenS, rSum, wipe, tYes, exists_eq, exists_eq', rIxL, rIxT, rIxS, exists_and_right, gt_iff_lt, not_true_eq_false, not_false_eq_true, Bool.not_true, Bool.not_false, decide_eq_true_eq, Nat.reduceSub, Nat.reduceAdd, List.append_assoc, tChain, tDIn, tDNotIn, sDDel, tAug, ipI]
            have vget : valV kvs (Sum.inr n) = some v := valV_mem nd (List.mem_of_getElem? ek)
            refine ⟨v, .inl ⟨kvs, Sum.inr n, .inr ⟨od, hf4⟩, rfl, vget.symm⟩, ?_⟩
            refine ⟨v, dd, rfl, hq3.kp k5, szd, bnd, fun H6 k6 => ?_⟩
            have k46 := k5.trans k6
            cases hrd : rowD dd with
            | false =>
              try simp (maxSteps := 1000000) only [tSeq, tIfS, tTest, tOp, tUn, tCB, tCons, tNil, tVar, tC, rI0, rI, rU, rEq, rNe, tRet, tRetN, tAsg, gName, gSub, tBM, tBM0, tNext, tB, tNot, tAnd, tOr, tIf, tCall, tDrop, tBreak, tCont, L2.start, tDGet, sDPut, tTup, tLst, tDNewK, tRevL, rCat, rAppend, rPop, rSetL, tAndV, tOrV, tNotV, tSl, tPart, tNoPart, tM1, gTup, gCons, gNil, cxK, cxnK, List.map_cons, List.map_nil, List.length_cons, List.length_nil, List.replicate, List.cons_append, List.nil_append, List.append_nil, List.set_cons_zero, List.set_cons_succ, List.getElem?_cons_zero, List.getElem?_cons_succ, Option.some.injEq, V.ref.injEq, V.int.injEq, V.str.injEq, V.bl.injEq, V.ty.injEq, exists_eq_left', exists_eq_left, exists_and_left, List.cons.injEq, and_true, true_and, sc_ii, sc_ss, sc_bb, sc_ni, sc_in, sc_is, sc_si, sc_nn, decide_true, decide_false, reduceCtorEq, Bool.false_eq_true, if_true, if_false, ite_true, ite_false, exists_const, eq_self, false_and, and_false, or_false, false_or, exists_false, Evl.rLenS, rSum, wipe, tYes, exists_eq, exists_eq', rIxL, rIxT, rIxS, exists_and_right, gt_iff_lt, not_true_eq_false, not_false_eq_true, Bool.not_true, Bool.not_false, decide_eq_true_eq, Nat.reduceSub, Nat.reduceAdd, List.append_assoc, tChain, tDIn, tDNotIn, sDDel, tAug, ipI]
              exact errL H6 k46 (by unfold goodR; rw [hns, hrd]; rfl)
            | true =>
              try simp (maxSteps := 1000000) only [tSeq, tIfS, tTest, tOp, tUn, tCB, tCons, tNil, tVar, tC, rI0, rI, rU, rEq, rNe, tRet, tRetN, tAsg, gName, gSub, tBM, tBM0, tNext, tB, tNot, tAnd, tOr, tIf, tCall, tDrop, tBreak, tCont, L2.start, tDGet, sDPut, tTup, tLst, tDNewK, tRevL, rCat, rAppend, rPop, rSetL, tAndV, tOrV, tNotV, tSl, tPart, tNoPart, tM1, gTup, gCons, gNil, cxK, cxnK, List.map_cons, List.map_nil, List.length_cons, List.length_nil, List.replicate, List.cons_append, List.nil_append, List.append_nil, List.set_cons_zero, List.set_cons_succ, List.getElem?_cons_zero, List.getElem?_cons_succ, Option.some.injEq, V.ref.injEq, V.int.injEq, V.str.injEq, V.bl.injEq, V.ty.injEq, exists_eq_left', exists_eq_left, exists_and_left, List.cons.injEq, and_true, true_and, sc_ii, sc_ss, sc_bb, sc_ni, sc_in, sc_is, sc_si, sc_nn, decide_true, decide_false, reduceCtorEq, Bool.false_eq_true, if_true, if_false, ite_true, ite_false, exists_const, eq_self, false_and, and_false, or_false, false_or, exists_false, Evl.rLenS, rSum, wipe, tYes, exists_eq, exists_eq', rIxL, rIxT, rIxS, exists_and_right, gt_iff_lt, not_true_eq_false, not_false_eq_true, Bool.not_true, Bool.not_false, decide_eq_true_eq, Nat.reduceSub, Nat.reduceAdd, List.append_assoc, tChain, tDIn, tDNotIn, sDDel, tAug, ipI]
              refine ⟨v, .inl ⟨kvs, Sum.inr n, .inr ⟨od, k6 _ _ not0 hf4⟩, rfl, vget.symm⟩, ?_⟩
              have isL : ∀ {dd : PyData}, rowD dd = true → ∃ ds, dd = .list ds := fun {dd} h => by
                cases dd <;> first | exact ⟨_, rfl⟩ | cases h
              obtain ⟨ds, rfl⟩ := isL hrd
              obtain ⟨n0, d0, _, er0, hq0, _, _, _⟩ := hrs.2 0 k0 v0 (by rw [hk0]; rfl)
              have ep0 : p0 = (n0, d0) := by rw [hr0] at er0; exact Option.some.inj er0
              have hrd0 : rowD d0 = true := by
                by_cases z : i = 0
                · subst z
                  rw [er] at er0
                  cases er0
                  exact hrd
                · have g0 := hg 0 (n0, d0) (by omega) er0
                  unfold goodR at g0
                  cases h : rowD d0 with
                  | true => rfl
                  | false => rw [h] at g0; cases hz : nameS n0 <;> rw [hz] at g0 <;> cases g0
              obtain ⟨ds0, rfl⟩ := isL hrd0
              have hq6 := hq3.kp k46
              have hq06 := ((hq0.kp k2).kpN k3 dno).kp k46
              cases hq6 with
              | lst e1 a1 =>
              cases hq06 with
              | lst e2 a2 =>
              refine ⟨_, rfl, _, .inl (sq_l e1), _, rfl, _, .inl (sq_l e2), ?_⟩
              rw [a1.len, a2.len]
              have lp : lenD p0.2 = ds0.length := by rw [ep0]; rfl
              by_cases hz : ds.length = ds0.length
              · have e3 : ((ds.length : Nat) : Int) = (ds0.length : Nat) := by omega
                try simp (maxSteps := 1000000) only [tSeq, tIfS, tTest, tOp, tUn, tCB, tCons, tNil, tVar, tC, rI0, rI, rU, rEq, rNe, tRet, tRetN, tAsg, gName, gSub, tBM, tBM0, tNext, tB, tNot, tAnd, tOr, tIf, tCall, tDrop, tBreak, tCont, L2.start, tDGet, sDPut, tTup, tLst, tDNewK, tRevL, rCat, rAppend, rPop, rSetL, tAndV, tOrV, tNotV, tSl, tPart, tNoPart, tM1, gTup, gCons, gNil, cxK, cxnK, List.map_cons, List.map_nil, List.length_cons, List.length_nil, List.replicate, List.cons_append, List.nil_append, List.append_nil, List.set_cons_zero, List.set_cons_succ, List.getElem?_cons_zero, List.getElem?_cons_succ, Option.some.injEq, V.ref.injEq, V.int.injEq, V.str.injEq, V.bl.injEq, V.ty.injEq, exists_eq_left', exists_eq_left, exists_and_left, List.cons.injEq, and_true, true_and, sc_ii, sc_ss, sc_bb, sc_ni, sc_in, sc_is, sc_si, sc_nn, decide_true, decide_false, reduceCtorEq, Bool.false_eq_true, if_true, if_false, ite_true, ite_false, exists_const, eq_self, false_and, and_false, or_false, false_or, exists_false, Evl.rLenS, rSum, wipe, tYes, exists_eq, exists_eq', rIxL, rIxT, rIxS, exists_and_right, gt_iff_lt, not_true_eq_false, not_false_eq_true, Bool.not_true, Bool.not_false, decide_eq_true_eq, Nat.reduceSub, Nat.reduceAdd, List.append_assoc, tChain, tDIn, tDNotIn, sDDel, tAug, ipI, e3]
                refine ⟨_, rfl, k6 _ _ not0 hf4, k3.trans k46.of0, fun j p hj ej => ?_⟩
                by_cases zj : j = i
                · subst zj
                  rw [er] at ej
                  cases ej
                  unfold goodR
                  rw [hns, hrd, lp, show lenD (.list ds) = ds.length from rfl, hz]
                  simp
                · exact hg j p (by omega) ej
              · have e3 : ¬ ((ds.length : Nat) : Int) = (ds0.length : Nat) := by omega
                try simp (maxSteps := 1000000) only [tSeq, tIfS, tTest, tOp, tUn, tCB, tCons, tNil, tVar, tC, rI0, rI, rU, rEq, rNe, tRet, tRetN, tAsg, gName, gSub, tBM, tBM0, tNext, tB, tNot, tAnd, tOr, tIf, tCall, tDrop, tBreak, tCont, L2.start, tDGet, sDPut, tTup, tLst, tDNewK, tRevL, rCat, rAppend, rPop, rSetL, tAndV, tOrV, tNotV, tSl, tPart, tNoPart, tM1, gTup, gCons, gNil, cxK, cxnK, List.map_cons, List.map_nil, List.length_cons, List.length_nil, List.replicate, List.cons_append, List.nil_append, List.append_nil, List.set_cons_zero, List.set_cons_succ, List.getElem?_cons_zero, List.getElem?_cons_succ, Option.some.injEq, V.ref.injEq, V.int.injEq, V.str.injEq, V.bl.injEq, V.ty.injEq, exists_eq_left', exists_eq_left, exists_and_left, List.cons.injEq, and_true, true_and, sc_ii, sc_ss, sc_bb, sc_ni, sc_in, sc_is, sc_si, sc_nn, decide_true, decide_false, reduceCtorEq, Bool.false_eq_true, if_true, if_false, ite_true, ite_false, exists_const, eq_self, false_and, and_false, or_false, false_or, exists_false, Evl.rLenS, rSum, wipe, tYes, exists_eq, exists_eq', rIxL, rIxT, rIxS, exists_and_right, gt_iff_lt, not_true_eq_false, not_false_eq_true, Bool.not_true, Bool.not_false, decide_eq_true_eq, Nat.reduceSub, Nat.reduceAdd, List.append_assoc, tChain, tDIn, tDNotIn, sDDel, tAug, ipI, e3]
                refine errL H6 k46 ?_
                unfold goodR
                rw [hns, hrd, lp, show lenD (.list ds) = ds.length from rfl, beq_eq_false_iff_ne.mpr hz]; rfl
        · rintro σ H3 ⟨c, rfl, hf3, k3, hg⟩
          refine ⟨hf3, qG ?_ _ (k2.trans (unl k3 hd2))⟩
          rw [rb]
          have none_ : ((p0 :: rr).find? fun q => !goodR (lenD p0.2) q) = none := by
            rw [List.find?_eq_none]
            intro y hy
            obtain ⟨j, ej⟩ := List.getElem?_of_mem hy
            have hj : j < kvs.length := by
              have := (List.getElem?_eq_some_iff.mp ej).1
              rw [List.length_cons] at this
              omega
            rw [hg j y hj (by rw [hr0]; exact ej)]
            exact Bool.false_ne_true
          rw [none_]; rfl
end
end My

set_option Elab.async false
set_option linter.all false
set_option maxRecDepth 100000
set_option maxHeartbeats 4000000
namespace My
open PySem L2 NdefX
def rLstOf (K : PySem.W.Frag) : List V → Hp → VK → Prop := fun xs H Q => ∃ p ys, xs = [V.ref p] ∧ (SqL K H p ys ∨ SqT K H p ys) ∧ ∀ (l : Addr), H l = none → Q (V.ref l) (upd H l (HO.lst ys))
abbrev s_BadNumber_init : Stmt := mtop 3 0
theorem sc_BadNumber_init : NScope ["self", "number", "__class__"] ["self", "number"] ["__class__"] (defScope s_BadNumber_init) := nscope_by (by decide +kernel)
theorem ok_BadNumber_init {P : Program} {w : World} {K : PySem.W.Frag} {mg : Str → Option Value} {base : Heap} {CX : CXT} {f cc cda C : Addr} {fd : FuncData} (F : FunX K "__init__" "BadNumber.__init__" s_BadNumber_init f fd cc cda C) (T : ErrC K C) (G : CodeF K P cda) (hsup : mg "super" = none) (n1 : PySem.W.findIn K (.ref C) "number" = some none) {Pf : V → Prop} :
    FnOk P w K mg base CX 1 f fd ["self", "number"] (spErr1 C "number" Pf) := by
  have F0 := F
  obtain ⟨oc, od, kV, doc, pm, an, ct, osl, hfd, lk, hcd⟩ := F0.ex
  obtain ⟨cl, cld, csl, hcc⟩ := F0.cell
  refine F.ok sc_BadNumber_init (fun vs H Q E h => ?_) (fun A outer s H vs Q E hr h => ?_)
  · obtain ⟨a, v, rfl, _⟩ := h
    rfl
  · obtain ⟨a, v, rfl, hp, ha, q⟩ := h
    refine ⟨_, psat_cons (psat_sup T G lk (by rw [hfd]; rfl) hcc hsup rfl rfl rfl rfl rfl rfl rfl (pa_cons pe_str pa_nil) rfl rfl rfl rfl rfl) (pss_one (ps_ost (pv 0) (pv 1))), ?_⟩
    try simp (maxSteps := 1000000) only [tSeq, tIfS, tTest, tOp, tUn, tCB, tCons, tNil, tVar, tC, rI0, rI, rU, rEq, rNe, tRet, tRetN, tAsg, gName, gSub, tBM, tBM0, tNext, tB, tNot, tAnd, tOr, tIf, tCall, tDrop, tBreak, tCont, L2.start, tDGet, sDPut, tTup, tLst, tDNewK, tRevL, rCat, rAppend, rPop, rSetL, tAndV, tOrV, tNotV, tSl, tPart, tNoPart, tM1, gTup, gCons, gNil, cxK, cxnK, List.map_cons, List.map_nil, List.length_cons, List.length_nil, List.replicate, List.cons_append, List.nil_append, List.append_nil, List.set_cons_zero, List.set_cons_succ, List.getElem?_cons_zero, List.getElem?_cons_succ, Option.some.injEq, V.ref.injEq, V.int.injEq, V.str.injEq, V.bl.injEq, V.ty.injEq, exists_eq_left', exists_eq_left, exists_and_left, List.cons.injEq, and_true, true_and, sc_ii, sc_ss, sc_bb, sc_ni, sc_in, sc_is, sc_si, sc_nn, decide_true, decide_false, reduceCtorEq, Bool.false_eq_true, if_true, if_false, ite_true, ite_false, exists_const, eq_self, false_and, and_false, or_false, false_or, exists_false, Evl.rLenS, rSum, wipe, tYes, exists_eq, exists_eq', rIxL, rIxT, rIxS, exists_and_right, gt_iff_lt, not_true_eq_false, not_false_eq_true, Bool.not_true, Bool.not_false, decide_eq_true_eq, Nat.reduceSub, Nat.reduceAdd, List.append_assoc, tChain, tDIn, tDNotIn, sDDel, tAug, ipI, startF, tSupI, tOst]
    exact ⟨ha, by decide, ha, C, T.ox, n1, .inl ⟨ha, q⟩⟩
abbrev s_NoOperation_init : Stmt := mtop 6 0
theorem sc_NoOperation_init : NScope ["self", "name", "__class__"] ["self", "name"] ["__class__"] (defScope s_NoOperation_init) := nscope_by (by decide +kernel)
theorem ok_NoOperation_init {P : Program} {w : World} {K : PySem.W.Frag} {mg : Str → Option Value} {base : Heap} {CX : CXT} {f cc cda C : Addr} {fd : FuncData} (F : FunX K "__init__" "NoOperation.__init__" s_NoOperation_init f fd cc cda C) (T : ErrC K C) (G : CodeF K P cda) (hsup : mg "super" = none) (n1 : PySem.W.findIn K (.ref C) "name" = some none) {Pf : V → Prop} :
    FnOk P w K mg base CX 1 f fd ["self", "name"] (spErr1 C "name" Pf) := by
  have F0 := F
  obtain ⟨oc, od, kV, doc, pm, an, ct, osl, hfd, lk, hcd⟩ := F0.ex
  obtain ⟨cl, cld, csl, hcc⟩ := F0.cell
  refine F.ok sc_NoOperation_init (fun vs H Q E h => ?_) (fun A outer s H vs Q E hr h => ?_)
  · obtain ⟨a, v, rfl, _⟩ := h
    rfl
  · obtain ⟨a, v, rfl, hp, ha, q⟩ := h
    refine ⟨_, psat_cons (psat_sup T G lk (by rw [hfd]; rfl) hcc hsup rfl rfl rfl rfl rfl rfl rfl (pa_cons pe_str pa_nil) rfl rfl rfl rfl rfl) (pss_one (ps_ost (pv 0) (pv 1))), ?_⟩
    try simp (maxSteps := 1000000) only [tSeq, tIfS, tTest, tOp, tUn, tCB, tCons, tNil, tVar, tC, rI0, rI, rU, rEq, rNe, tRet, tRetN, tAsg, gName, gSub, tBM, tBM0, tNext, tB, tNot, tAnd, tOr, tIf, tCall, tDrop, tBreak, tCont, L2.start, tDGet, sDPut, tTup, tLst, tDNewK, tRevL, rCat, rAppend, rPop, rSetL, tAndV, tOrV, tNotV, tSl, tPart, tNoPart, tM1, gTup, gCons, gNil, cxK, cxnK, List.map_cons, List.map_nil, List.length_cons, List.length_nil, List.replicate, List.cons_append, List.nil_append, List.append_nil, List.set_cons_zero, List.set_cons_succ, List.getElem?_cons_zero, List.getElem?_cons_succ, Option.some.injEq, V.ref.injEq, V.int.injEq, V.str.injEq, V.bl.injEq, V.ty.injEq, exists_eq_left', exists_eq_left, exists_and_left, List.cons.injEq, and_true, true_and, sc_ii, sc_ss, sc_bb, sc_ni, sc_in, sc_is, sc_si, sc_nn, decide_true, decide_false, reduceCtorEq, Bool.false_eq_true, if_true, if_false, ite_true, ite_false, exists_const, eq_self, false_and, and_false, or_false, false_or, exists_false, Evl.rLenS, rSum, wipe, tYes, exists_eq, exists_eq', rIxL, rIxT, rIxS, exists_and_right, gt_iff_lt, not_true_eq_false, not_false_eq_true, Bool.not_true, Bool.not_false, decide_eq_true_eq, Nat.reduceSub, Nat.reduceAdd, List.append_assoc, tChain, tDIn, tDNotIn, sDDel, tAug, ipI, startF, tSupI, tOst]
    exact ⟨ha, by decide, ha, C, T.ox, n1, .inl ⟨ha, q⟩⟩
abbrev s_Table_init : Stmt := mtop 16 0
theorem sc_Table_init : FnScope ["self", "rows", "first", "name"] ["self", "rows", "first"] (defScope s_Table_init) := ⟨rfl, rfl, rfl, by decide +kernel, rfl, by decide +kernel, by decide +kernel⟩
abbrev s_Table_names : Stmt := mtop 16 1
theorem sc_Table_names : FnScope ["self"] ["self"] (defScope s_Table_names) := ⟨rfl, rfl, rfl, by decide +kernel, rfl, by decide +kernel, by decide +kernel⟩
abbrev s_Table_call : Stmt := mtop 16 2
theorem sc_Table_call : FnScope ["self", "name", "state"] ["self", "name", "state"] (defScope s_Table_call) := ⟨rfl, rfl, rfl, by decide +kernel, rfl, by decide +kernel, by decide +kernel⟩
abbrev s_Table_answers : Stmt := mtop 16 3
theorem sc_Table_answers : FnScope ["self", "calls", "name", "state", "found", "answer"] ["self", "calls"] (defScope s_Table_answers) := ⟨rfl, rfl, rfl, by decide +kernel, rfl, by decide +kernel, by decide +kernel⟩
abbrev s_Table_check_name : Stmt := mtop 16 5
theorem sc_Table_check_name : FnScope ["self", "name"] ["self", "name"] (defScope s_Table_check_name) := ⟨rfl, rfl, rfl, by decide +kernel, rfl, by decide +kernel, by decide +kernel⟩
/-- rows of data that are good stand at the dict's values -/
theorem RowsD.kpN {H H' : Hp} {S : List Addr} {kvs : List (Key × V)} {rs : List (Str × PyData)} (h : RowsD H kvs rs) (k : Kp S H H') (hS : ∀ a ∈ S, ∀ xs, H a ≠ some (.tup xs) ∧ H a ≠ some (.lst xs)) : RowsD H' kvs rs :=
  ⟨h.1, fun i key v e => by
    obtain ⟨n, d, a, b, c, r⟩ := h.2 i key v e
    exact ⟨n, d, a, b, c.kpN k hS, r⟩⟩
theorem RowsD.kp {H H' : Hp} {kvs : List (Key × V)} {rs : List (Str × PyData)} (h : RowsD H kvs rs) (k : Kp [] H H') : RowsD H' kvs rs := h.kpN k fun a m => absurd m (by simp)
/-- what the class Table has for the objects -/
structure TbC (K : PySem.W.Frag) (mg : Str → Option Value) (TC : Addr) : Prop where
  k : mg "Table" = some (.ref TC)
  cl : Cls K TC
  n1 : NoAttr K TC "size"
  n2 : NoAttr K TC "first"
  n3 : NoAttr K TC "_rows"
/-- at o a Table of the good rows rs -/
def TabAt (TC : Addr) (H : Hp) (o : Addr) (m : Nat) (first : Int) (rs : List (Str × PyData)) : Prop := ∃ (dx d : Addr) (kvs : List (Key × V)), H o = some (.ins TC dx [("size", .int (m : Nat)), ("first", .int first), ("_rows", .ref d)]) ∧ H d = some (.dK kvs) ∧ RowsD H kvs rs ∧ (kvs.map (·.1)).Nodup ∧ rowsBad rs = none ∧ m = lenD (rs.headD ("", .none)).2 ∧ 0 ≤ first ∧ first < m
theorem TabAt.kp {TC : Addr} {H H' : Hp} {o : Addr} {m : Nat} {first : Int} {rs : List (Str × PyData)} (h : TabAt TC H o m first rs) (k : Kp [] H H') : TabAt TC H' o m first rs := by
  obtain ⟨dx, d, kvs, a, b, c, r⟩ := h
  exact ⟨dx, d, kvs, k _ _ not0 a, k _ _ not0 b, c.kp k, r⟩
def spTI (TC BT : Addr) : Sp := fun vs H Q E => ∃ (o dx d : Addr) (vf : V) (df : PyData) (kvs : List (Key × V)) (rs : List (Str × PyData)), vs = [.ref o, .ref d, vf] ∧ H o = some (.ins TC dx []) ∧ H d = some (.dK kvs) ∧ RowsD H kvs rs ∧ (kvs.map (·.1)).Nodup ∧ kvs.length ≤ 1000 ∧ Dq H vf df ∧
  (rowsBad rs = none → ∀ i : Int, df = .int i → 0 ≤ i → i < lenD (rs.headD ("", .none)).2 → ∀ H', TabAt TC H' o (lenD (rs.headD ("", .none)).2) i rs → Kp [o] H H' → Q .non H') ∧
  (∀ nm, (rowsBad rs = some nm ∨ (rowsBad rs = none ∧ belowD (lenD (rs.headD ("", .none)).2) df = false ∧ nm = ("" : Str))) → ∀ (e : Addr) (H' : Hp), H e = none → H' e = some (.xd [("name", .str nm)]) → Kp [o] H H' → E (.ref BT) (some e) H')
theorem rowsBad_none {rs : List (Str × PyData)} (h : rowsBad rs = none) : rs ≠ [] ∧ rs.length ≤ 6 ∧ ∀ q ∈ rs, goodR (lenD (rs.headD ("", .none)).2) q = true := by
  cases rs with
  | nil => cases h
  | cons p r =>
    have h : (if 7 ≤ (p :: r).length then some ("" : Str) else ((p :: r).find? fun q => !goodR (lenD p.2) q).map (·.1)) = none := h
    by_cases z : 7 ≤ (p :: r).length
    · rw [if_pos z] at h; cases h
    · rw [if_neg z] at h
      refine ⟨by simp, by omega, fun q hq => ?_⟩
      have h2 : ((p :: r).find? fun q => !goodR (lenD p.2) q) = none := by
        cases e : ((p :: r).find? fun q => !goodR (lenD p.2) q) with
        | none => rfl
        | some x => rw [e] at h; cases h
      have h3 := List.find?_eq_none.mp h2 q hq
      show goodR (lenD p.2) q = true
      simpa using h3
theorem isL {dd : PyData} (h : rowD dd = true) : ∃ ds, dd = .list ds := by
  cases dd <;> first | exact ⟨_, rfl⟩ | cases h
theorem goodR_row {m : Nat} {n : Str} {d : PyData} (h : goodR m (n, d) = true) : nameS n = true ∧ ∃ ds, d = .list ds ∧ rowD (.list ds) = true ∧ ds.length = m := by
  unfold goodR at h
  rw [Bool.and_eq_true, Bool.and_eq_true, beq_iff_eq] at h
  obtain ⟨ds, rfl⟩ := isL h.2.1
  exact ⟨h.1, ds, rfl, h.2.1, h.2.2⟩
theorem belowD_int {m : Int} {d : PyData} (h : belowD m d = true) : ∃ i : Int, d = .int i ∧ 0 ≤ i ∧ i < m := by
  cases d with
  | int i =>
    have h' : (decide (0 ≤ i) && decide (i < m)) = true := h
    rw [Bool.and_eq_true, decide_eq_true_eq, decide_eq_true_eq] at h'
    exact ⟨i, rfl, h'⟩
  | _ => cases h
theorem ins_no {H : Hp} {o C dx : Addr} {fs : List (Str × V)} (e : H o = some (.ins C dx fs)) : ∀ a ∈ [o], ∀ xs, H a ≠ some (.tup xs) ∧ H a ≠ some (.lst xs) := fun a m xs => by
  rw [List.mem_singleton.mp m, e]
  exact ⟨fun z => (by cases z), fun z => (by cases z)⟩
theorem RowsD.app {H : Hp} {kvs : List (Key × V)} {rs : List (Str × PyData)} (h : RowsD H kvs rs) {n : Str} {v : V} {dd : PyData} (hq : Dq H v dd) (sz : szD dd = true) (bnd : ∀ ds, dd = .list ds → ds.length ≤ 1000) (nl : n.length ≤ 1000) : RowsD H (kvs ++ [(Sum.inr n, v)]) (rs ++ [(n, dd)]) := by
  refine ⟨by simp [h.1], fun i k x e => ?_⟩
  rcases Nat.lt_trichotomy i kvs.length with z | z | z
  · rw [List.getElem?_append_left z] at e
    obtain ⟨n', d', a, b, c⟩ := h.2 i k x e
    exact ⟨n', d', a, by rw [List.getElem?_append_left (by rw [← h.1]; exact z)]; exact b, c⟩
  · subst z
    rw [List.getElem?_append_right (Nat.le_refl _), Nat.sub_self] at e
    cases e
    refine ⟨n, dd, rfl, ?_, hq, sz, bnd, nl⟩
    rw [List.getElem?_append_right (by rw [h.1]; exact Nat.le_refl _), h.1, Nat.sub_self]; rfl
  · rw [List.getElem?_append_right (by omega), List.getElem?_eq_none (by simp; omega)] at e
    cases e
theorem nd_fresh {α : Type} {l : List α} {j : Nat} {x : α} (nd : l.Nodup) (e : l[j]? = some x) : x ∉ l.take j := fun m => by
  obtain ⟨i, hi, ei⟩ := List.mem_iff_getElem.mp m
  rw [List.length_take] at hi
  rw [List.getElem_take] at ei
  obtain ⟨hj, ej⟩ := List.getElem?_eq_some_iff.mp e
  have := (List.getElem_inj nd).mp (ei.trans ej.symm)
  omega
theorem valV_fresh {kvs : List (Key × V)} {k : Key} (h : k ∉ kvs.map (·.1)) : valV kvs k = none := by
  induction kvs with
  | nil => rfl
  | cons p r ih =>
    rw [List.map_cons, List.mem_cons, not_or] at h
    have e := ih h.2
    unfold valV at e ⊢
    simp [Ne.symm h.1, e]
/-- ahead of the i-th name: the new dict at D has the rows of those before, as new lists -/
def CopyIn (d : Addr) (od : Obj) (kvs : List (Key × V)) (rs : List (Str × PyData)) (D : Addr) (H2 : Hp) (i : Nat) (H' : Hp) : Prop := H' d = some (.frz od (.dK kvs)) ∧ Kp [] H2 H' ∧ ∃ kvs', H' D = some (.dK kvs') ∧ RowsD H' kvs' (rs.take i) ∧ kvs'.map (·.1) = (kvs.map (·.1)).take i
section
variable {P : Program} {w : World} {K : PySem.W.Frag} {mg : Str → Option Value} {base : Heap} {tL t1 t2 : Tok}
theorem ok_Table_init {f : Addr} {fd : FuncData} {dvs : List V} (F : FunD K "__init__" "Table.__init__" (defArgs s_Table_init) (defBody s_Table_init) (defScope s_Table_init) dvs [] f fd) (T : Bt mg tL t1 t2) {TC BT fB : Addr} {fdB : FuncData} (C : TbC K mg TC) (E_BadTable : Er1 P w K mg base "BadTable" "name" BT fB fdB ["self", "name"] (fun _ => True))
    {fc : Addr} {fdc : FuncData} (D_check_rows : Df K mg "check_rows" s_check_rows ["rows"] fc fdc) (G_check_rows : FnOk P w K mg base (L2.CX P w) 5 fc fdc ["rows"] (spCheck BT))
    {fl : Addr} {fdl : FuncData} (D_is_below : Df K mg "is_below" s_is_below ["value", "bound"] fl fdl) (G_is_below : FnOk P w K mg base CX0 1 fl fdl ["value", "bound"] spBelow) : FnOk P w K mg base (L2.CX P w) 6 f fd ["self", "rows", "first"] (spTI TC BT) := by
  refine F.ok (CX := L2.CX P w) sc_Table_init (fun vs H Q E h => ?_) (fun cdv A outer s H vs Q E hr h => ?_)
  · obtain ⟨o, dx, d, vf, df, kvs, rs, rfl, _⟩ := h
    rfl
  · obtain ⟨o, dx, d, vf, df, kvs, rs, rfl, ho, hd, hrs, nd, kl, hf, qG, qB⟩ := h
    have hu := hu_of hr
    refine ⟨_, (pss_cons (ps_expr (pe_call G_check_rows (hr.mono (by decide)) rfl D_check_rows.g D_check_rows.F.kp D_check_rows.b .nil (passes_call (E := E) (takes_of rfl rfl rfl rfl) (fun _ _ _ _ h => h)) (pa_cons (pv 1) pa_nil)))
      (pss_cons (ps_fld (pv 0) (pe_callB (id := "len") (r := Evl.rLenS K) call_len_seq (by rfl) T.b_len PySem.boot_len (pa_cons (pe_ix (r := rIxL K) ix_list (pe_callTy (T := "list") (r := rListV) (call_listV rfl) (by rfl) T.b_list (by decide +kernel) (pa_cons (pe_values (pv 1)) pa_nil)) pe_int (fun _ _ => rfl)) pa_nil)) rfl)
      (pss_cons (ps_if (pt_not (pt_val (pe_call G_is_below (hr.mono (by decide)) rfl D_is_below.g D_is_below.F.kp D_is_below.b .nil pass0 (pa_cons (pv 2) (pa_cons (pe_fld (pv 0) rfl) pa_nil))))) (pss_one (ps_raise rfl (takes_of rfl rfl rfl rfl) (pmk_oex E_BadTable.ox E_BadTable.ic E_BadTable.ti E_BadTable.G (hr.mono (by decide)) E_BadTable.b .nil passL rfl E_BadTable.k (pa_cons pe_str pa_nil)))) pss_nil)
      (pss_cons (ps_fld (pv 0) (pv 2) rfl)
      (pss_one (ps_fld (pv 0) (pe_lock (pe_dc (own := [("name", 3)]) (g := (gName 3)) (tt := tYes) rfl sc_Table_init.nd (pi_keys (pv 1)) (blkOk_by (N := ["self", "rows", "first", "name"]) (sc := defScope s_Table_init) (by decide +kernel)) (fun _ _ _ _ _ => (pg_name (i := 3) sc_Table_init.nd rfl (Or.inl rfl))) (fun _ _ _ _ _ => pts_nil) (fun _ _ _ _ _ => (pv 3)) (fun _ _ _ _ _ => (pe_callTy (T := "list") (r := rLstOf K) call_list_of (by rfl) T.b_list (by decide +kernel) (pa_cons (pe_dget hu (pv 1) (pv 3) (fun _ _ => rfl)) pa_nil))))) rfl)))))), ?_⟩
    try simp (maxSteps := 1000000) only [tSeq, tIfS, tTest, tOp, tUn, tCB, tCons, tNil, tVar, tC, rI0, rI, rU, rEq, rNe, tRet, tRetN, tAsg, gName, gSub, tBM, tBM0, tNext, tB, tNot, tAnd, tOr, tIf, tCall, tDrop, tBreak, tCont, L2.start, tDGet, sDPut, tTup, tLst, tDNewK, tRevL, rCat, rAppend, rPop, rSetL, tAndV, tOrV, tNotV, tSl, tPart, tNoPart, tM1, gTup, gCons, gNil, cxK, cxnK, List.map_cons, List.map_nil, List.length_cons, List.length_nil, List.replicate, List.cons_append, List.nil_append, List.append_nil, List.set_cons_zero, List.set_cons_succ, List.getElem?_cons_zero, List.getElem?_cons_succ, Option.some.injEq, V.ref.injEq, V.int.injEq, V.str.injEq, V.bl.injEq, V.ty.injEq, exists_eq_left', exists_eq_left, exists_and_left, List.cons.injEq, and_true, true_and, sc_ii, sc_ss, sc_bb, sc_ni, sc_in, sc_is, sc_si, sc_nn, decide_true, decide_false, reduceCtorEq, Bool.false_eq_true, if_true, if_false, ite_true, ite_false, exists_const, eq_self, false_and, and_false, or_false, false_or, exists_false, Evl.rLenS, rSum, wipe, tYes, exists_eq, exists_eq', rIxL, rIxT, rIxS, exists_and_right, gt_iff_lt, not_true_eq_false, not_false_eq_true, Bool.not_true, Bool.not_false, decide_eq_true_eq, Nat.reduceSub, Nat.reduceAdd, List.append_assoc, tChain, tDIn, tDNotIn, sDDel, tAug, ipI]
    refine ⟨d, kvs, rs, rfl, hd, hrs, nd, kl, fun rb H1 k1 => ?_, fun nm rb e H' ne he k => qB nm (.inl rb) e H' ne he k.of0⟩
    have hd1 := k1 _ _ not0 hd
    have ho1 := k1 _ _ not0 ho
    have hrs1 := hrs.kp k1
    have hlen := hrs.1
    obtain ⟨⟨n0, d0⟩, rr, hr0⟩ : ∃ p r, rs = p :: r := by
      cases rs with
      | nil => cases rb
      | cons p r => exact ⟨p, r, rfl⟩
    have zl : kvs.length = rr.length + 1 := by rw [hlen, hr0]; rfl
    obtain ⟨⟨k0, v0⟩, kr, hk0⟩ : ∃ q r, kvs = q :: r := by
      cases kvs with
      | nil => simp at zl
      | cons q r => exact ⟨q, r, rfl⟩
    try simp (maxSteps := 1000000) only [tSeq, tIfS, tTest, tOp, tUn, tCB, tCons, tNil, tVar, tC, rI0, rI, rU, rEq, rNe, tRet, tRetN, tAsg, gName, gSub, tBM, tBM0, tNext, tB, tNot, tAnd, tOr, tIf, tCall, tDrop, tBreak, tCont, L2.start, tDGet, sDPut, tTup, tLst, tDNewK, tRevL, rCat, rAppend, rPop, rSetL, tAndV, tOrV, tNotV, tSl, tPart, tNoPart, tM1, gTup, gCons, gNil, cxK, cxnK, List.map_cons, List.map_nil, List.length_cons, List.length_nil, List.replicate, List.cons_append, List.nil_append, List.append_nil, List.set_cons_zero, List.set_cons_succ, List.getElem?_cons_zero, List.getElem?_cons_succ, Option.some.injEq, V.ref.injEq, V.int.injEq, V.str.injEq, V.bl.injEq, V.ty.injEq, exists_eq_left', exists_eq_left, exists_and_left, List.cons.injEq, and_true, true_and, sc_ii, sc_ss, sc_bb, sc_ni, sc_in, sc_is, sc_si, sc_nn, decide_true, decide_false, reduceCtorEq, Bool.false_eq_true, if_true, if_false, ite_true, ite_false, exists_const, eq_self, false_and, and_false, or_false, false_or, exists_false, Evl.rLenS, rSum, wipe, tYes, exists_eq, exists_eq', rIxL, rIxT, rIxS, exists_and_right, gt_iff_lt, not_true_eq_false, not_false_eq_true, Bool.not_true, Bool.not_false, decide_eq_true_eq, Nat.reduceSub, Nat.reduceAdd, List.append_assoc, tChain, tDIn, tDNotIn, sDDel, tAug, ipI, sFld, tFld]
    refine ⟨.ref d, rfl, d, kvs, rfl, hd1, fun q nq => ?_⟩
    have hdq : (upd H1 q (viewO q d)) d = some (.dK kvs) := by rw [upd_ne (ne_of_none hd1 nq)]; exact hd1
    refine ⟨q, d, kvs, rfl, upd_same, hdq, fun l nl => ⟨l, rfl, _, sq_l upd_same, v0, atI_of (by decide) (by rw [hk0]; rfl), ?_⟩⟩
    have k2 : Kp [] H1 (upd (upd H1 q (viewO q d)) l (.lst (kvs.map fun kv => kv.2))) := (Kp.new nq).trans (Kp.new nl)
    generalize upd (upd H1 q (viewO q d)) l (.lst (kvs.map fun kv => kv.2)) = H2 at k2 ⊢
    obtain ⟨n0', d0', _, er0, hq0, _, _, _⟩ := hrs1.2 0 k0 v0 (by rw [hk0]; rfl)
    rw [hr0] at er0
    cases er0
    try simp (maxSteps := 1000000) only [tSeq, tIfS, tTest, tOp, tUn, tCB, tCons, tNil, tVar, tC, rI0, rI, rU, rEq, rNe, tRet, tRetN, tAsg, gName, gSub, tBM, tBM0, tNext, tB, tNot, tAnd, tOr, tIf, tCall, tDrop, tBreak, tCont, L2.start, tDGet, sDPut, tTup, tLst, tDNewK, tRevL, rCat, rAppend, rPop, rSetL, tAndV, tOrV, tNotV, tSl, tPart, tNoPart, tM1, gTup, gCons, gNil, cxK, cxnK, List.map_cons, List.map_nil, List.length_cons, List.length_nil, List.replicate, List.cons_append, List.nil_append, List.append_nil, List.set_cons_zero, List.set_cons_succ, List.getElem?_cons_zero, List.getElem?_cons_succ, Option.some.injEq, V.ref.injEq, V.int.injEq, V.str.injEq, V.bl.injEq, V.ty.injEq, exists_eq_left', exists_eq_left, exists_and_left, List.cons.injEq, and_true, true_and, sc_ii, sc_ss, sc_bb, sc_ni, sc_in, sc_is, sc_si, sc_nn, decide_true, decide_false, reduceCtorEq, Bool.false_eq_true, if_true, if_false, ite_true, ite_false, exists_const, eq_self, false_and, and_false, or_false, false_or, exists_false, Evl.rLenS, rSum, wipe, tYes, exists_eq, exists_eq', rIxL, rIxT, rIxS, exists_and_right, gt_iff_lt, not_true_eq_false, not_false_eq_true, Bool.not_true, Bool.not_false, decide_eq_true_eq, Nat.reduceSub, Nat.reduceAdd, List.append_assoc, tChain, tDIn, tDNotIn, sDDel, tAug, ipI, sFld, tFld]
    have rg := rowsBad_none rb
    have rg0 := goodR_row (rg.2.2 (n0, d0) (by rw [hr0]; simp))
    obtain ⟨_, ds0, rfl, _, _⟩ := rg0
    have zm : lenD (rs.headD ("", .none)).2 = ds0.length := by rw [hr0]; rfl
    rw [zm] at qG qB
    cases hq0 with
    | @lst a0 xs0 _ e0 ha0 =>
    have hx0 : xs0.length = ds0.length := ha0.len
    have ho2 := k2 _ _ not0 ho1
    have hd2 := k2 _ _ not0 hd1
    refine ⟨a0, rfl, xs0, .inl (sq_l (k2 _ _ not0 e0)), TC, dx, [], ho2, C.cl, C.n1, by decide, TC, dx, _, upd_same, C.cl, C.n1, _, rfl, ?_⟩
    rw [hx0]
    have hrs2 := hrs1.kp k2
    have hf2 := (hf.kp k1).kp k2
    have kw1 : Kp [o] H2 (upd H2 o (.ins TC dx (putF "size" (.int (ds0.length : Nat)) []))) := (Kp.refl [o] _).put (by simp)
    have hf3 := hf2.kpN kw1 (ins_no ho2)
    refine ⟨vf, df, (ds0.length : Nat), rfl, hf3, ?_⟩
    cases hb : belowD (ds0.length : Nat) df with
    | false =>
      try simp (maxSteps := 1000000) only [tSeq, tIfS, tTest, tOp, tUn, tCB, tCons, tNil, tVar, tC, rI0, rI, rU, rEq, rNe, tRet, tRetN, tAsg, gName, gSub, tBM, tBM0, tNext, tB, tNot, tAnd, tOr, tIf, tCall, tDrop, tBreak, tCont, L2.start, tDGet, sDPut, tTup, tLst, tDNewK, tRevL, rCat, rAppend, rPop, rSetL, tAndV, tOrV, tNotV, tSl, tPart, tNoPart, tM1, gTup, gCons, gNil, cxK, cxnK, List.map_cons, List.map_nil, List.length_cons, List.length_nil, List.replicate, List.cons_append, List.nil_append, List.append_nil, List.set_cons_zero, List.set_cons_succ, List.getElem?_cons_zero, List.getElem?_cons_succ, Option.some.injEq, V.ref.injEq, V.int.injEq, V.str.injEq, V.bl.injEq, V.ty.injEq, exists_eq_left', exists_eq_left, exists_and_left, List.cons.injEq, and_true, true_and, sc_ii, sc_ss, sc_bb, sc_ni, sc_in, sc_is, sc_si, sc_nn, decide_true, decide_false, reduceCtorEq, Bool.false_eq_true, if_true, if_false, ite_true, ite_false, exists_const, eq_self, false_and, and_false, or_false, false_or, exists_false, Evl.rLenS, rSum, wipe, tYes, exists_eq, exists_eq', rIxL, rIxT, rIxS, exists_and_right, gt_iff_lt, not_true_eq_false, not_false_eq_true, Bool.not_true, Bool.not_false, decide_eq_true_eq, Nat.reduceSub, Nat.reduceAdd, List.append_assoc, tChain, tDIn, tDNotIn, sDDel, tAug, ipI]
      refine err1_made (P := fun _ => True) True.intro fun e H' ne he k => qB "" (.inr ⟨rb, hb, rfl⟩) e H' ?_ he ?_
      · have eo : e ≠ o := fun z => by rw [z, upd_same] at ne; cases ne
        rw [upd_ne eo] at ne
        exact (k1.trans k2).free0 ne
      · exact ((k1.trans k2).of0.trans kw1).trans k.of0
    | true =>
      try simp (maxSteps := 1000000) only [tSeq, tIfS, tTest, tOp, tUn, tCB, tCons, tNil, tVar, tC, rI0, rI, rU, rEq, rNe, tRet, tRetN, tAsg, gName, gSub, tBM, tBM0, tNext, tB, tNot, tAnd, tOr, tIf, tCall, tDrop, tBreak, tCont, L2.start, tDGet, sDPut, tTup, tLst, tDNewK, tRevL, rCat, rAppend, rPop, rSetL, tAndV, tOrV, tNotV, tSl, tPart, tNoPart, tM1, gTup, gCons, gNil, cxK, cxnK, List.map_cons, List.map_nil, List.length_cons, List.length_nil, List.replicate, List.cons_append, List.nil_append, List.append_nil, List.set_cons_zero, List.set_cons_succ, List.getElem?_cons_zero, List.getElem?_cons_succ, Option.some.injEq, V.ref.injEq, V.int.injEq, V.str.injEq, V.bl.injEq, V.ty.injEq, exists_eq_left', exists_eq_left, exists_and_left, List.cons.injEq, and_true, true_and, sc_ii, sc_ss, sc_bb, sc_ni, sc_in, sc_is, sc_si, sc_nn, decide_true, decide_false, reduceCtorEq, Bool.false_eq_true, if_true, if_false, ite_true, ite_false, exists_const, eq_self, false_and, and_false, or_false, false_or, exists_false, Evl.rLenS, rSum, wipe, tYes, exists_eq, exists_eq', rIxL, rIxT, rIxS, exists_and_right, gt_iff_lt, not_true_eq_false, not_false_eq_true, Bool.not_true, Bool.not_false, decide_eq_true_eq, Nat.reduceSub, Nat.reduceAdd, List.append_assoc, tChain, tDIn, tDNotIn, sDDel, tAug, ipI]
      obtain ⟨i, rfl, i0, i1⟩ := belowD_int hb
      cases hf3 with
      | int _ =>
      refine ⟨TC, dx, _, upd_same, C.cl, C.n2, (show (1 : Nat) < 1000 by decide), ?_⟩
      have kw3 : Kp [o] H2 (upd (upd H2 o (.ins TC dx (putF "size" (.int (ds0.length : Nat)) []))) o (.ins TC dx (putF "first" (.int i) (putF "size" (.int (ds0.length : Nat)) [])))) := kw1.put (by simp)
      have ho3 : (upd (upd H2 o (.ins TC dx (putF "size" (.int (ds0.length : Nat)) []))) o (.ins TC dx (putF "first" (.int i) (putF "size" (.int (ds0.length : Nat)) [])))) o = some (.ins TC dx [("size", .int (ds0.length : Nat)), ("first", .int i)]) := upd_same
      generalize (upd (upd H2 o (.ins TC dx (putF "size" (.int (ds0.length : Nat)) []))) o (.ins TC dx (putF "first" (.int i) (putF "size" (.int (ds0.length : Nat)) [])))) = H3 at kw3 ho3 ⊢
      have od_ne : o ≠ d := fun z => by rw [z, hd2] at ho2; cases ho2
      have hd3 : H3 d = some (.dK kvs) := kw3 _ _ (not1 (Ne.symm od_ne)) hd2
      have hrs3 := hrs2.kpN kw3 (ins_no ho2)
      refine ⟨d, .dK kvs, hd3, True.intro, fun od => ?_⟩
      have kl0 : Kp [d] H3 (upd H3 d (.frz od (.dK kvs))) := (Kp.refl [d] _).put List.mem_cons_self
      have dno : ∀ a ∈ [d], ∀ xs, H3 a ≠ some (.tup xs) ∧ H3 a ≠ some (.lst xs) := fun a ha xs => by
        rw [List.mem_singleton.mp ha, hd3]
        exact ⟨fun z => (by cases z), fun z => (by cases z)⟩
      have hrs4 := hrs3.kpN kl0 dno
      refine ⟨.ref d, rfl, d, od, rfl, .inl ⟨kvs, upd_same, fun D nD => dc_it walk_keys (CopyIn d od kvs rs D (upd H3 d (.frz od (.dK kvs)))) ?_ (fun i H' _ h => h.1) ?_ ?_⟩⟩
      · have dD : d ≠ D := ne_of_none upd_same nD
        exact ⟨by rw [upd_ne dD, upd_same], Kp.new nD, [], upd_same, ⟨rfl, fun i k v e => by cases e⟩, rfl⟩
      · rintro j x H5 H6 hj ⟨hf5, k5, kvs', hD5, hr5, hk5⟩ ⟨rfl, k, v, ek, rfl⟩
        obtain ⟨n, dd, rfl, er, hq, szd, bnd, nl3⟩ := hrs4.2 j k v ek
        try simp (maxSteps := 1000000) only [tSeq, tIfS, tTest, tOp, tUn, tCB, tCons, tNil, tVar, tC, rI0, rI, rU, rEq, rNe, tRet, tRetN, tAsg, gName, gSub, tBM, tBM0, tNext, tB, tNot, tAnd, tOr, tIf, tCall, tDrop, tBreak, tCont, L2.start, tDGet, sDPut, tTup, tLst, tDNewK, tRevL, rCat, rAppend, rPop, rSetL, tAndV, tOrV, tNotV, tSl, tPart, tNoPart, tM1, gTup, gCons, gNil, cxK, cxnK, List.map_cons, List.map_nil, List.length_cons, List.length_nil, List.replicate, List.cons_append, List.nil_append, List.append_nil, List.set_cons_zero, List.set_cons_succ, List.getElem?_cons_zero, List.getElem?_cons_succ, Option.some.injEq, V.ref.injEq, V.int.injEq, V.str.injEq, V.bl.injEq, V.ty.injEq, exists_eq_left', exists_eq_left, exists_and_left, List.cons.injEq, and_true, true_and, sc_ii, sc_ss, sc_bb, sc_ni, sc_in, sc_is, sc_si, sc_nn, decide_true, decide_false, reduceCtorEq, Bool.false_eq_true, if_true, if_false, ite_true, ite_false, exists_const, eq_self, false_and, and_false, or_false, false_or, exists_false, Evl.rLenS, rSum, wipe, tYes, exists_eq, exists_eq', rIxL, rIxT, rIxS, exists_and_right, gt_iff_lt, not_true_eq_false, not_false_eq_true, Bool.not_true, Bool.not_false, decide_eq_true_eq, Nat.reduceSub, Nat.reduceAdd, List.append_assoc, tChain, tDIn, tDNotIn, sDDel, tAug, ipI]
        obtain ⟨_, ds, rfl, _, _⟩ := goodR_row (rg.2.2 (n, dd) (List.mem_of_getElem? er))
        cases hq with
        | @lst a xs _ e ha =>
        refine ⟨.ref a, .inl ⟨kvs, Sum.inr n, .inr ⟨od, hf5⟩, rfl, (valV_mem nd (List.mem_of_getElem? ek)).symm⟩, ?_⟩
        refine ⟨a, xs, rfl, .inl (sq_l (k5 _ _ not0 e)), fun p np => ?_⟩
        have hkj : (kvs.map (·.1))[j]? = some (Sum.inr n) := by rw [List.getElem?_map, ek]; rfl
        have fr : (Sum.inr n : Key) ∉ kvs'.map (·.1) := by rw [hk5]; exact nd_fresh nd hkj
        have kp6 : Kp [] H6 (upd H6 p (.lst xs)) := Kp.new np
        have hD6 := kp6 _ _ not0 hD5
        have dD : d ≠ D := fun z => by rw [z, hD5] at hf5; cases hf5
        have l5 : kvs'.length ≤ 1000 := by
          have := congrArg List.length hk5
          rw [List.length_map, List.length_take, List.length_map] at this
          omega
        refine ⟨kvs', Sum.inr n, rfl, hD6, smallL (by omega), ?_⟩
        rw [putK_new _ (valV_fresh fr)]
        have kw7 : Kp [D] (upd H6 p (.lst xs)) (upd (upd H6 p (.lst xs)) D (.dK (kvs' ++ [(Sum.inr n, .ref p)]))) := (Kp.refl [D] _).put List.mem_cons_self
        have Dno : ∀ a ∈ [D], ∀ xs', (upd H6 p (.lst xs)) a ≠ some (.tup xs') ∧ (upd H6 p (.lst xs)) a ≠ some (.lst xs') := fun a ha xs' => by
          rw [List.mem_singleton.mp ha, hD6]
          exact ⟨fun z => (by cases z), fun z => (by cases z)⟩
        refine ⟨kw7 _ _ (not1 dD) (kp6 _ _ not0 hf5), (k5.trans kp6).wr nD, _, upd_same, ?_, ?_⟩
        · rw [take_snoc er]
          have hnew : Dq (upd H6 p (.lst xs)) (.ref p) (.list ds) := .lst upd_same (DqAll.kpN (k5.trans kp6) (fun a m => absurd m (by simp)) ha)
          exact RowsD.app ((hr5.kp kp6).kpN kw7 Dno) (hnew.kpN kw7 Dno) szd bnd nl3
        · rw [List.map_append, take_snoc hkj, hk5]; rfl
      · rintro H5 ⟨hf5, k5, kvs', hD5, hr5, hk5⟩
        have dD : d ≠ D := fun z => by rw [z, hD5] at hf5; cases hf5
        have oD : o ≠ D := fun z => by rw [← z, upd_ne od_ne, ho3] at nD; cases nD
        have ho5 := k5 o _ not0 (by rw [upd_ne od_ne]; exact ho3)
        have ho6 : (upd H5 d (.dK kvs)) o = some (.ins TC dx [("size", .int (ds0.length : Nat)), ("first", .int i)]) := by rw [upd_ne od_ne]; exact ho5
        refine ⟨hf5, TC, dx, [("size", .int (ds0.length : Nat)), ("first", .int i)], ho6, C.cl, C.n3, (show (2 : Nat) < 1000 by decide), ?_⟩
        have k35 := unl (kl0.trans k5.of0) hd3
        have k56 : Kp [d] H5 (upd H5 d (.dK kvs)) := (Kp.refl [d] _).put List.mem_cons_self
        have dno5 : ∀ a ∈ [d], ∀ xs', H5 a ≠ some (.tup xs') ∧ H5 a ≠ some (.lst xs') := fun a ha xs' => by
          rw [List.mem_singleton.mp ha, hf5]
          exact ⟨fun z => (by cases z), fun z => (by cases z)⟩
        have kw6 : Kp [o] (upd H5 d (.dK kvs)) (upd (upd H5 d (.dK kvs)) o (.ins TC dx (putF "_rows" (.ref D) [("size", .int (ds0.length : Nat)), ("first", .int i)]))) := (Kp.refl [o] _).put List.mem_cons_self
        have hl : kvs.length = rs.length := hlen
        rw [hl, List.take_length] at hr5
        refine qG rb i rfl i0 i1 _ ⟨dx, D, kvs', upd_same, ?_, (hr5.kpN k56 dno5).kpN kw6 (ins_no ho6), ?_, rb, zm.symm, i0, i1⟩ ((((k1.trans k2).of0.trans kw3).trans k35.of0).trans kw6)
        · rw [upd_ne (Ne.symm oD), upd_ne (Ne.symm dD)]; exact hD5
        · rw [hk5, List.take_of_length_le (by rw [List.length_map]; omega)]; exact nd
end
end My

set_option Elab.async false
set_option linter.all false
set_option maxRecDepth 100000
set_option maxHeartbeats 4000000
namespace My
open PySem L2 NdefX
/-! ### what a table tells -/
def pairI : PyData → Int × Int
  | .tuple [.int a, .int s] => (a, s)
  | _ => (0, 0)
def rowL : PyData → List (Int × Int)
  | .list ds => ds.map pairI
  | _ => []
def rowOf (rs : List (Str × PyData)) (z : Str) : List (Int × Int) := match rs.find? (fun p => decide (p.1 = z)) with
  | some p => rowL p.2
  | none => []
def cellOf (rs : List (Str × PyData)) (z : Str) (s : Int) : Int × Int := (rowOf rs z).getD s.toNat (0, 0)
def walkR (rs : List (Str × PyData)) : Int → List Str → List Int
  | _, [] => []
  | s, z :: zs => (cellOf rs z s).1 :: walkR rs (cellOf rs z s).2 zs
def stateR (rs : List (Str × PyData)) : Int → List Str → Int
  | s, [] => s
  | s, z :: zs => stateR rs (cellOf rs z s).2 zs
def hasD (rs : List (Str × PyData)) : PyData → Bool
  | .str z => nameS z && decide (z ∈ rs.map (·.1))
  | _ => false
theorem pairD_is {m : Int} {d : PyData} (h : pairD m d = true) : ∃ a s : Int, d = .tuple [.int a, .int s] ∧ 0 ≤ a ∧ a < 10 ∧ 0 ≤ s ∧ s < m := by
  match d, h with
  | .tuple [a, s], h =>
    have h' : (belowD 10 a && belowD m s) = true := h
    rw [Bool.and_eq_true] at h'
    obtain ⟨i, rfl, i0, i1⟩ := belowD_int h'.1
    obtain ⟨j, rfl, j0, j1⟩ := belowD_int h'.2
    exact ⟨i, j, rfl, i0, i1, j0, j1⟩
theorem find_key {rs : List (Str × PyData)} {z : Str} {d : PyData} {j : Nat} (nd : (rs.map (·.1)).Nodup) (e : rs[j]? = some (z, d)) : rs.find? (fun p => decide (p.1 = z)) = some (z, d) := by
  refine find_first e (by simp) fun i y hi ey => ?_
  refine decide_eq_false fun h => ?_
  have e1 : (rs.map (·.1))[j]? = some z := by rw [List.getElem?_map, e]; rfl
  have e2 : (rs.map (·.1))[i]? = some z := by rw [List.getElem?_map, ey, ← h]; rfl
  obtain ⟨a, ea⟩ := List.getElem?_eq_some_iff.mp e1
  obtain ⟨b, eb⟩ := List.getElem?_eq_some_iff.mp e2
  have := (List.getElem_inj nd).mp (ea.trans eb.symm)
  omega
theorem RowsD.keys {H : Hp} {kvs : List (Key × V)} {rs : List (Str × PyData)} (h : RowsD H kvs rs) : kvs.map (·.1) = (rs.map (·.1)).map (fun z => (Sum.inr z : Key)) := by
  refine List.ext_getElem? fun i => ?_
  rw [List.getElem?_map, List.getElem?_map, List.getElem?_map]
  cases e : kvs[i]? with
  | none =>
    have : rs[i]? = none := by
      rw [List.getElem?_eq_none_iff] at e ⊢
      have := h.1
      omega
    rw [this]; rfl
  | some p =>
    obtain ⟨k, v⟩ := p
    obtain ⟨n, d, rfl, er, _⟩ := h.2 i k v e
    rw [er]; rfl
theorem nd_names {kvs : List (Key × V)} {rs : List (Str × PyData)} (e : kvs.map (·.1) = (rs.map (·.1)).map (fun z => (Sum.inr z : Key))) (nd : (kvs.map (·.1)).Nodup) : (rs.map (·.1)).Nodup := by
  rw [e] at nd
  exact List.Pairwise.of_map _ (fun a b h e => h (by rw [e])) nd
theorem TabAt.get {TC : Addr} {H : Hp} {o : Addr} {m : Nat} {first : Int} {rs : List (Str × PyData)} (h : TabAt TC H o m first rs) {z : Str} (hz : z ∈ rs.map (·.1)) : ∃ (dx d : Addr) (kvs : List (Key × V)) (a : Addr) (xs : List V), H o = some (.ins TC dx [("size", .int (m : Nat)), ("first", .int first), ("_rows", .ref d)]) ∧ H d = some (.dK kvs) ∧ valV kvs (Sum.inr z) = some (.ref a) ∧ H a = some (.lst xs) ∧ xs.length = m ∧
    ∀ s : Int, 0 ≤ s → s < m → ∃ p, xs[s.toNat]? = some (.ref p) ∧ H p = some (.tup [.int (cellOf rs z s).1, .int (cellOf rs z s).2]) ∧ 0 ≤ (cellOf rs z s).1 ∧ (cellOf rs z s).1 < 10 ∧ 0 ≤ (cellOf rs z s).2 ∧ (cellOf rs z s).2 < m := by
  obtain ⟨dx, d, kvs, ho, hd, hr, nd, rb, em, f0, f1⟩ := h
  obtain ⟨⟨z', dd⟩, hm, rfl⟩ := List.mem_map.mp hz
  obtain ⟨j, ej⟩ := List.getElem?_of_mem hm
  obtain ⟨⟨k, v⟩, ek⟩ : ∃ p, kvs[j]? = some p := by
    have hj := (List.getElem?_eq_some_iff.mp ej).1
    exact ⟨kvs[j]'(by rw [hr.1]; exact hj), List.getElem?_eq_getElem _⟩
  obtain ⟨n, d', rfl, er, hq, _⟩ := hr.2 j k v ek
  rw [ej] at er
  cases er
  obtain ⟨hn, ds, rfl, hrow, hl⟩ := goodR_row ((rowsBad_none rb).2.2 _ hm)
  cases hq with
  | @lst a xs _ e ha =>
  refine ⟨dx, d, kvs, a, xs, ho, hd, valV_mem nd (List.mem_of_getElem? ek), e, by rw [ha.len, hl, em], fun s s0 s1 => ?_⟩
  have sl : s.toNat < xs.length := by rw [ha.len, hl, ← em]; omega
  obtain ⟨dp, edp, hdp⟩ := ha.get (List.getElem?_eq_getElem sl)
  have hall : ds.all (pairD ds.length) = true := by
    have h' : (decide (1 ≤ ds.length) && (decide (ds.length ≤ 100) && ds.all (pairD ds.length))) = true := hrow
    rw [Bool.and_eq_true, Bool.and_eq_true] at h'
    exact h'.2.2
  obtain ⟨x, y, rfl, x0, x1, y0, y1⟩ := pairD_is (List.all_eq_true.mp hall _ (List.mem_of_getElem? edp))
  have ec : cellOf rs z' s = (x, y) := by
    unfold cellOf rowOf
    rw [find_key (nd_names hr.keys nd) ej]
    show (ds.map pairI).getD s.toNat (0, 0) = (x, y)
    rw [List.getD_eq_getElem?_getD, List.getElem?_map, edp]; rfl
  rw [ec]
  have e5 : xs[s.toNat]? = some xs[s.toNat] := List.getElem?_eq_getElem sl
  rw [e5]
  generalize xs[s.toNat] = w0 at hdp
  have hl2 : ds.length = m := by rw [hl, em]
  rw [hl2] at y1
  cases hdp with
  | tup e2 h2 =>
  cases h2 with
  | cons a1 t =>
  cases t with
  | cons a2 t =>
  cases t
  cases a1
  cases a2
  exact ⟨_, rfl, e2, x0, x1, y0, y1⟩
theorem TabAt.head {TC : Addr} {H : Hp} {o : Addr} {m : Nat} {first : Int} {rs : List (Str × PyData)} (h : TabAt TC H o m first rs) : ∃ dx d : Addr, H o = some (.ins TC dx [("size", .int (m : Nat)), ("first", .int first), ("_rows", .ref d)]) := by
  obtain ⟨dx, d, _, ho, _⟩ := h
  exact ⟨dx, d, ho⟩
theorem TabAt.has {TC : Addr} {H : Hp} {o : Addr} {m : Nat} {first : Int} {rs : List (Str × PyData)} (h : TabAt TC H o m first rs) : ∃ (dx d : Addr) (kvs : List (Key × V)), H o = some (.ins TC dx [("size", .int (m : Nat)), ("first", .int first), ("_rows", .ref d)]) ∧ H d = some (.dK kvs) ∧ (kvs.map fun kv => kV kv.1) = (rs.map (·.1)).map V.str ∧ ∀ z : Str, (valV kvs (Sum.inr z)).isSome = decide (z ∈ rs.map (·.1)) := by
  obtain ⟨dx, d, kvs, ho, hd, hr, nd, rb, em, f0, f1⟩ := h
  refine ⟨dx, d, kvs, ho, hd, ?_, fun z => ?_⟩
  · have e := congrArg (List.map kV) hr.keys
    rw [List.map_map, List.map_map] at e
    exact e
  · by_cases hz : z ∈ rs.map (·.1)
    · rw [decide_eq_true hz]
      have hk : (Sum.inr z : Key) ∈ kvs.map (·.1) := by rw [hr.keys]; exact List.mem_map_of_mem hz
      obtain ⟨⟨k, v⟩, hm, ek⟩ := List.mem_map.mp hk
      have ek' : k = Sum.inr z := ek
      subst ek'
      rw [valV_mem nd hm]; rfl
    · rw [decide_eq_false hz]
      have hk : (Sum.inr z : Key) ∉ kvs.map (·.1) := by
        rw [hr.keys]
        intro h
        obtain ⟨z', hz', e⟩ := List.mem_map.mp h
        cases e
        exact hz hz'
      rw [valV_fresh hk]; rfl
section
variable {P : Program} {w : World} {K : PySem.W.Frag} {mg : Str → Option Value} {base : Heap} {tL t1 t2 : Tok}
def spTN (TC : Addr) : Sp := fun vs H Q E => ∃ (o : Addr) (m : Nat) (first : Int) (rs : List (Str × PyData)), vs = [.ref o] ∧ TabAt TC H o m first rs ∧ ∀ l H', H l = none → H' l = some (.lst ((rs.map (·.1)).map V.str)) → Kp [] H H' → Q (.ref l) H'
theorem ok_Table_names {f : Addr} {fd : FuncData} (F : Fun K "names" "Table.names" s_Table_names f fd) (T : Bt mg tL t1 t2) {TC : Addr} (C : TbC K mg TC) : FnOk P w K mg base CX0 1 f fd ["self"] (spTN TC) := by
  refine F.ok sc_Table_names (fun vs H Q E h => ?_) (fun cdv A outer s H vs Q E hr h => ?_)
  · obtain ⟨o, m, first, rs, rfl, _⟩ := h
    rfl
  · obtain ⟨o, m, first, rs, rfl, hT, q⟩ := h
    obtain ⟨dx, d, kvs, ho, hd, ek, _⟩ := hT.has
    refine ⟨_, (pss_one (ps_ret (pe_callTy (call_listD rfl) (by rfl) T.b_list (by decide +kernel) (pa_cons (pe_fld (pv 0) rfl) pa_nil)))), ?_⟩
    try simp (maxSteps := 1000000) only [tSeq, tIfS, tTest, tOp, tUn, tCB, tCons, tNil, tVar, tC, rI0, rI, rU, rEq, rNe, tRet, tRetN, tAsg, gName, gSub, tBM, tBM0, tNext, tB, tNot, tAnd, tOr, tIf, tCall, tDrop, tBreak, tCont, L2.start, tDGet, sDPut, tTup, tLst, tDNewK, tRevL, rCat, rAppend, rPop, rSetL, tAndV, tOrV, tNotV, tSl, tPart, tNoPart, tM1, gTup, gCons, gNil, cxK, cxnK, List.map_cons, List.map_nil, List.length_cons, List.length_nil, List.replicate, List.cons_append, List.nil_append, List.append_nil, List.set_cons_zero, List.set_cons_succ, List.getElem?_cons_zero, List.getElem?_cons_succ, Option.some.injEq, V.ref.injEq, V.int.injEq, V.str.injEq, V.bl.injEq, V.ty.injEq, exists_eq_left', exists_eq_left, exists_and_left, List.cons.injEq, and_true, true_and, sc_ii, sc_ss, sc_bb, sc_ni, sc_in, sc_is, sc_si, sc_nn, decide_true, decide_false, reduceCtorEq, Bool.false_eq_true, if_true, if_false, ite_true, ite_false, exists_const, eq_self, false_and, and_false, or_false, false_or, exists_false, Evl.rLenS, rSum, wipe, tYes, exists_eq, exists_eq', rIxL, rIxT, rIxS, exists_and_right, gt_iff_lt, not_true_eq_false, not_false_eq_true, Bool.not_true, Bool.not_false, decide_eq_true_eq, Nat.reduceSub, Nat.reduceAdd, List.append_assoc, tChain, tDIn, tDNotIn, sDDel, tAug, ipI, tFld]
    refine ⟨TC, dx, _, ho, C.cl, C.n3, .ref d, rfl, d, rfl, kvs, .inl hd, fun p np => ?_⟩
    rw [ek]
    exact q p _ np upd_same (Kp.new np)
def spTK (TC NO : Addr) : Sp := fun vs H Q E => ∃ (o : Addr) (v : V) (dn : PyData) (m : Nat) (first : Int) (rs : List (Str × PyData)), vs = [.ref o, v] ∧ TabAt TC H o m first rs ∧ Dq H v dn ∧ szD dn = true ∧ (hasD rs dn = true → ∀ H', Kp [] H H' → Q .non H') ∧
  (hasD rs dn = false → ∀ (e : Addr) (H' : Hp), H e = none → H' e = some (.xd [("name", v)]) → Kp [] H H' → E (.ref NO) (some e) H')
theorem ok_Table_check_name {f : Addr} {fd : FuncData} (F : Fun K "check_name" "Table.check_name" s_Table_check_name f fd) (T : Bt mg tL t1 t2) {TC NO fN : Addr} {fdN : FuncData} (C : TbC K mg TC) (E_NoOperation : Er1 P w K mg base "NoOperation" "name" NO fN fdN ["self", "name"] (fun _ => True))
    {fa : Addr} {fda : FuncData} (D_is_name : Df K mg "is_name" s_is_name ["value"] fa fda) (G_is_name : FnOk P w K mg base CX0 1 fa fda ["value"] (spD (fun _ => True) nameD)) : FnOk P w K mg base (L2.CX P w) 3 f fd ["self", "name"] (spTK TC NO) := by
  refine F.okX sc_Table_check_name (fun vs H Q E h => ?_) (fun cdv A outer s H vs Q E hr h => ?_)
  · obtain ⟨o, v, dn, m, first, rs, rfl, _⟩ := h
    rfl
  · obtain ⟨o, v, dn, m, first, rs, rfl, hT, hv, sz, qG, qB⟩ := h
    have hu := hu_of hr
    refine ⟨_, (pss_one (ps_if (PW.pt (pw_or (pt_not (pt_val (pe_call G_is_name (hr.mono (by decide)) rfl D_is_name.g D_is_name.F.kp D_is_name.b .nil pass0 (pa_cons (pv 1) pa_nil)))) (pw_or1 (pt_cmp (pc_dnotin hu (pv 1) (pe_fld (pv 0) rfl)))))) (pss_one (ps_raise rfl (takes_of rfl rfl rfl rfl) (pmk_oex E_NoOperation.ox E_NoOperation.ic E_NoOperation.ti E_NoOperation.G (hr.mono (by decide)) E_NoOperation.b .nil passL rfl E_NoOperation.k (pa_cons (pv 1) pa_nil)))) pss_nil)), ?_⟩
    try simp (maxSteps := 1000000) only [tSeq, tIfS, tTest, tOp, tUn, tCB, tCons, tNil, tVar, tC, rI0, rI, rU, rEq, rNe, tRet, tRetN, tAsg, gName, gSub, tBM, tBM0, tNext, tB, tNot, tAnd, tOr, tIf, tCall, tDrop, tBreak, tCont, L2.start, tDGet, sDPut, tTup, tLst, tDNewK, tRevL, rCat, rAppend, rPop, rSetL, tAndV, tOrV, tNotV, tSl, tPart, tNoPart, tM1, gTup, gCons, gNil, cxK, cxnK, List.map_cons, List.map_nil, List.length_cons, List.length_nil, List.replicate, List.cons_append, List.nil_append, List.append_nil, List.set_cons_zero, List.set_cons_succ, List.getElem?_cons_zero, List.getElem?_cons_succ, Option.some.injEq, V.ref.injEq, V.int.injEq, V.str.injEq, V.bl.injEq, V.ty.injEq, exists_eq_left', exists_eq_left, exists_and_left, List.cons.injEq, and_true, true_and, sc_ii, sc_ss, sc_bb, sc_ni, sc_in, sc_is, sc_si, sc_nn, decide_true, decide_false, reduceCtorEq, Bool.false_eq_true, if_true, if_false, ite_true, ite_false, exists_const, eq_self, false_and, and_false, or_false, false_or, exists_false, Evl.rLenS, rSum, wipe, tYes, exists_eq, exists_eq', rIxL, rIxT, rIxS, exists_and_right, gt_iff_lt, not_true_eq_false, not_false_eq_true, Bool.not_true, Bool.not_false, decide_eq_true_eq, Nat.reduceSub, Nat.reduceAdd, List.append_assoc, tChain, tDIn, tDNotIn, sDDel, tAug, ipI, tFld]
    refine ⟨v, dn, rfl, hv, sz, True.intro, fun H1 k1 => ?_⟩
    obtain ⟨dx, d, kvs, ho, hd, _, ek⟩ := (hT.kp k1).has
    have err : ∀ (H2 : Hp), Kp [] H H2 → hasD rs dn = false → tMkO NO (spErr1 NO "name" fun _ => True) [] (tCons (tVar 1) tNil) [some (.ref o), some v] H2 (fun cls d H' => E cls d H') := fun H2 k2 hb =>
      ⟨v, rfl, err1_made (P := fun _ => True) True.intro fun e H' ne he k => qB hb e H' (k2.free0 ne) he (k2.trans k)⟩
    cases hn : nameD dn with
    | false =>
      try simp (maxSteps := 1000000) only [tSeq, tIfS, tTest, tOp, tUn, tCB, tCons, tNil, tVar, tC, rI0, rI, rU, rEq, rNe, tRet, tRetN, tAsg, gName, gSub, tBM, tBM0, tNext, tB, tNot, tAnd, tOr, tIf, tCall, tDrop, tBreak, tCont, L2.start, tDGet, sDPut, tTup, tLst, tDNewK, tRevL, rCat, rAppend, rPop, rSetL, tAndV, tOrV, tNotV, tSl, tPart, tNoPart, tM1, gTup, gCons, gNil, cxK, cxnK, List.map_cons, List.map_nil, List.length_cons, List.length_nil, List.replicate, List.cons_append, List.nil_append, List.append_nil, List.set_cons_zero, List.set_cons_succ, List.getElem?_cons_zero, List.getElem?_cons_succ, Option.some.injEq, V.ref.injEq, V.int.injEq, V.str.injEq, V.bl.injEq, V.ty.injEq, exists_eq_left', exists_eq_left, exists_and_left, List.cons.injEq, and_true, true_and, sc_ii, sc_ss, sc_bb, sc_ni, sc_in, sc_is, sc_si, sc_nn, decide_true, decide_false, reduceCtorEq, Bool.false_eq_true, if_true, if_false, ite_true, ite_false, exists_const, eq_self, false_and, and_false, or_false, false_or, exists_false, Evl.rLenS, rSum, wipe, tYes, exists_eq, exists_eq', rIxL, rIxT, rIxS, exists_and_right, gt_iff_lt, not_true_eq_false, not_false_eq_true, Bool.not_true, Bool.not_false, decide_eq_true_eq, Nat.reduceSub, Nat.reduceAdd, List.append_assoc, tChain, tDIn, tDNotIn, sDDel, tAug, ipI]
      refine err H1 k1 ?_
      cases dn with
      | str z =>
        have hn' : nameS z = false := hn
        show (nameS z && _) = false
        rw [hn']; rfl
      | _ => rfl
    | true =>
      obtain ⟨z, rfl⟩ : ∃ z, dn = .str z := by
        cases dn <;> first | exact ⟨_, rfl⟩ | cases hn
      cases hv with
      | str _ =>
      have eh : hasD rs (.str z) = decide (z ∈ rs.map (·.1)) := by
        have hn' : nameS z = true := hn
        show (nameS z && _) = _
        rw [hn']; rfl
      try simp (maxSteps := 1000000) only [tSeq, tIfS, tTest, tOp, tUn, tCB, tCons, tNil, tVar, tC, rI0, rI, rU, rEq, rNe, tRet, tRetN, tAsg, gName, gSub, tBM, tBM0, tNext, tB, tNot, tAnd, tOr, tIf, tCall, tDrop, tBreak, tCont, L2.start, tDGet, sDPut, tTup, tLst, tDNewK, tRevL, rCat, rAppend, rPop, rSetL, tAndV, tOrV, tNotV, tSl, tPart, tNoPart, tM1, gTup, gCons, gNil, cxK, cxnK, List.map_cons, List.map_nil, List.length_cons, List.length_nil, List.replicate, List.cons_append, List.nil_append, List.append_nil, List.set_cons_zero, List.set_cons_succ, List.getElem?_cons_zero, List.getElem?_cons_succ, Option.some.injEq, V.ref.injEq, V.int.injEq, V.str.injEq, V.bl.injEq, V.ty.injEq, exists_eq_left', exists_eq_left, exists_and_left, List.cons.injEq, and_true, true_and, sc_ii, sc_ss, sc_bb, sc_ni, sc_in, sc_is, sc_si, sc_nn, decide_true, decide_false, reduceCtorEq, Bool.false_eq_true, if_true, if_false, ite_true, ite_false, exists_const, eq_self, false_and, and_false, or_false, false_or, exists_false, Evl.rLenS, rSum, wipe, tYes, exists_eq, exists_eq', rIxL, rIxT, rIxS, exists_and_right, gt_iff_lt, not_true_eq_false, not_false_eq_true, Bool.not_true, Bool.not_false, decide_eq_true_eq, Nat.reduceSub, Nat.reduceAdd, List.append_assoc, tChain, tDIn, tDNotIn, sDDel, tAug, ipI]
      refine ⟨TC, dx, _, ho, C.cl, C.n3, .ref d, rfl, d, rfl, _, .inl ⟨kvs, Sum.inr z, .inl hd, rfl, rfl⟩, ?_⟩
      rw [ek z]
      by_cases hz : z ∈ rs.map (·.1)
      · rw [decide_eq_true hz]
        exact qG (eh.trans (decide_eq_true hz)) H1 k1
      · rw [decide_eq_false hz]
        exact err H1 k1 (eh.trans (decide_eq_false hz))
def spTCall (TC NO BN : Addr) : Sp := fun vs H Q E => ∃ (o : Addr) (v u : V) (dn ds : PyData) (m : Nat) (first : Int) (rs : List (Str × PyData)), vs = [.ref o, v, u] ∧ TabAt TC H o m first rs ∧ Dq H v dn ∧ szD dn = true ∧ Dq H u ds ∧
  (∀ (z : Str) (s : Int), dn = .str z → ds = .int s → hasD rs dn = true → 0 ≤ s → s < m → ∀ (p : Addr) (H' : Hp), H' p = some (.tup [.int (cellOf rs z s).1, .int (cellOf rs z s).2]) → Kp [] H H' → Q (.ref p) H') ∧
  (hasD rs dn = false → ∀ (e : Addr) (H' : Hp), H e = none → H' e = some (.xd [("name", v)]) → Kp [] H H' → E (.ref NO) (some e) H') ∧
  (hasD rs dn = true → belowD m ds = false → ∀ (e : Addr) (H' : Hp), H e = none → H' e = some (.xd [("number", u)]) → Kp [] H H' → E (.ref BN) (some e) H')
theorem ok_Table_call {f : Addr} {fd : FuncData} (F : Fun K "__call__" "Table.__call__" s_Table_call f fd) (T : Bt mg tL t1 t2) {TC NO BN fB fN : Addr} {fdB fdN : FuncData} (C : TbC K mg TC) (E_BadNumber : Er1 P w K mg base "BadNumber" "number" BN fB fdB ["self", "number"] (fun _ => True))
    (ME_Table_check_name : Meth K TC "check_name" fN) (bM_Table_check_name : Binds K fdN ["self", "name"] []) (G_Table_check_name : FnOk P w K mg base (L2.CX P w) 3 fN fdN ["self", "name"] (spTK TC NO))
    {fl : Addr} {fdl : FuncData} (D_is_below : Df K mg "is_below" s_is_below ["value", "bound"] fl fdl) (G_is_below : FnOk P w K mg base CX0 1 fl fdl ["value", "bound"] spBelow) : FnOk P w K mg base (L2.CX P w) 4 f fd ["self", "name", "state"] (spTCall TC NO BN) := by
  refine F.okX sc_Table_call (fun vs H Q E h => ?_) (fun cdv A outer s H vs Q E hr h => ?_)
  · obtain ⟨o, v, u, dn, ds, m, first, rs, rfl, _⟩ := h
    rfl
  · obtain ⟨o, v, u, dn, ds, m, first, rs, rfl, hT, hv, sz, hs, qG, qN, qS⟩ := h
    have hu := hu_of hr
    refine ⟨_, (pss_cons (ps_expr (pe_meth (pv 0) C.cl ME_Table_check_name G_Table_check_name (hr.mono (by decide)) bM_Table_check_name .nil (passes_call (E := E) (takes_of rfl rfl rfl rfl) (fun _ _ _ _ h => h)) (pa_cons (pv 1) pa_nil)))
      (pss_cons (ps_if (pt_not (pt_val (pe_call G_is_below (hr.mono (by decide)) rfl D_is_below.g D_is_below.F.kp D_is_below.b .nil pass0 (pa_cons (pv 2) (pa_cons (pe_fld (pv 0) rfl) pa_nil))))) (pss_one (ps_raise rfl (takes_of rfl rfl rfl rfl) (pmk_oex E_BadNumber.ox E_BadNumber.ic E_BadNumber.ti E_BadNumber.G (hr.mono (by decide)) E_BadNumber.b .nil passL rfl E_BadNumber.k (pa_cons (pv 2) pa_nil)))) pss_nil)
      (pss_one (ps_ret (pe_ix (r := rIxL K) ix_list (pe_dget hu (pe_fld (pv 0) rfl) (pv 1) (fun _ _ => rfl)) (pv 2) (fun _ _ => rfl)))))), ?_⟩
    try simp (maxSteps := 1000000) only [tSeq, tIfS, tTest, tOp, tUn, tCB, tCons, tNil, tVar, tC, rI0, rI, rU, rEq, rNe, tRet, tRetN, tAsg, gName, gSub, tBM, tBM0, tNext, tB, tNot, tAnd, tOr, tIf, tCall, tDrop, tBreak, tCont, L2.start, tDGet, sDPut, tTup, tLst, tDNewK, tRevL, rCat, rAppend, rPop, rSetL, tAndV, tOrV, tNotV, tSl, tPart, tNoPart, tM1, gTup, gCons, gNil, cxK, cxnK, List.map_cons, List.map_nil, List.length_cons, List.length_nil, List.replicate, List.cons_append, List.nil_append, List.append_nil, List.set_cons_zero, List.set_cons_succ, List.getElem?_cons_zero, List.getElem?_cons_succ, Option.some.injEq, V.ref.injEq, V.int.injEq, V.str.injEq, V.bl.injEq, V.ty.injEq, exists_eq_left', exists_eq_left, exists_and_left, List.cons.injEq, and_true, true_and, sc_ii, sc_ss, sc_bb, sc_ni, sc_in, sc_is, sc_si, sc_nn, decide_true, decide_false, reduceCtorEq, Bool.false_eq_true, if_true, if_false, ite_true, ite_false, exists_const, eq_self, false_and, and_false, or_false, false_or, exists_false, Evl.rLenS, rSum, wipe, tYes, exists_eq, exists_eq', rIxL, rIxT, rIxS, exists_and_right, gt_iff_lt, not_true_eq_false, not_false_eq_true, Bool.not_true, Bool.not_false, decide_eq_true_eq, Nat.reduceSub, Nat.reduceAdd, List.append_assoc, tChain, tDIn, tDNotIn, sDDel, tAug, ipI, tFld, tMeth]
    obtain ⟨dx0, d0, ho0⟩ := hT.head
    refine ⟨dx0, _, ho0, rfl, o, v, dn, m, first, rs, rfl, hT, hv, sz, fun hh H1 k1 => ?_, fun hh e H' ne he k => qN hh e H' ne he k⟩
    have hT1 := hT.kp k1
    obtain ⟨z, rfl⟩ : ∃ z, dn = .str z := by
      cases dn <;> first | exact ⟨_, rfl⟩ | cases hh
    have hz : z ∈ rs.map (·.1) := by
      have h' : (nameS z && decide (z ∈ rs.map (·.1))) = true := hh
      rw [Bool.and_eq_true, decide_eq_true_eq] at h'
      exact h'.2
    obtain ⟨dx, d, kvs, a, xs, ho, hd, ev, ha, hl, cell⟩ := hT1.get hz
    cases hv with
    | str _ =>
    refine ⟨TC, dx, _, ho, C.cl, C.n1, _, rfl, u, ds, (m : Nat), rfl, hs.kp k1, ?_⟩
    cases hb : belowD (m : Nat) ds with
    | false =>
      try simp (maxSteps := 1000000) only [tSeq, tIfS, tTest, tOp, tUn, tCB, tCons, tNil, tVar, tC, rI0, rI, rU, rEq, rNe, tRet, tRetN, tAsg, gName, gSub, tBM, tBM0, tNext, tB, tNot, tAnd, tOr, tIf, tCall, tDrop, tBreak, tCont, L2.start, tDGet, sDPut, tTup, tLst, tDNewK, tRevL, rCat, rAppend, rPop, rSetL, tAndV, tOrV, tNotV, tSl, tPart, tNoPart, tM1, gTup, gCons, gNil, cxK, cxnK, List.map_cons, List.map_nil, List.length_cons, List.length_nil, List.replicate, List.cons_append, List.nil_append, List.append_nil, List.set_cons_zero, List.set_cons_succ, List.getElem?_cons_zero, List.getElem?_cons_succ, Option.some.injEq, V.ref.injEq, V.int.injEq, V.str.injEq, V.bl.injEq, V.ty.injEq, exists_eq_left', exists_eq_left, exists_and_left, List.cons.injEq, and_true, true_and, sc_ii, sc_ss, sc_bb, sc_ni, sc_in, sc_is, sc_si, sc_nn, decide_true, decide_false, reduceCtorEq, Bool.false_eq_true, if_true, if_false, ite_true, ite_false, exists_const, eq_self, false_and, and_false, or_false, false_or, exists_false, Evl.rLenS, rSum, wipe, tYes, exists_eq, exists_eq', rIxL, rIxT, rIxS, exists_and_right, gt_iff_lt, not_true_eq_false, not_false_eq_true, Bool.not_true, Bool.not_false, decide_eq_true_eq, Nat.reduceSub, Nat.reduceAdd, List.append_assoc, tChain, tDIn, tDNotIn, sDDel, tAug, ipI]
      exact ⟨u, rfl, err1_made (P := fun _ => True) True.intro fun e H' ne he k => qS hh hb e H' (k1.free0 ne) he (k1.trans k)⟩
    | true =>
      obtain ⟨i, rfl, i0, i1⟩ := belowD_int hb
      cases hs with
      | int _ =>
      obtain ⟨p, ep, hp, _⟩ := cell i i0 i1
      try simp (maxSteps := 1000000) only [tSeq, tIfS, tTest, tOp, tUn, tCB, tCons, tNil, tVar, tC, rI0, rI, rU, rEq, rNe, tRet, tRetN, tAsg, gName, gSub, tBM, tBM0, tNext, tB, tNot, tAnd, tOr, tIf, tCall, tDrop, tBreak, tCont, L2.start, tDGet, sDPut, tTup, tLst, tDNewK, tRevL, rCat, rAppend, rPop, rSetL, tAndV, tOrV, tNotV, tSl, tPart, tNoPart, tM1, gTup, gCons, gNil, cxK, cxnK, List.map_cons, List.map_nil, List.length_cons, List.length_nil, List.replicate, List.cons_append, List.nil_append, List.append_nil, List.set_cons_zero, List.set_cons_succ, List.getElem?_cons_zero, List.getElem?_cons_succ, Option.some.injEq, V.ref.injEq, V.int.injEq, V.str.injEq, V.bl.injEq, V.ty.injEq, exists_eq_left', exists_eq_left, exists_and_left, List.cons.injEq, and_true, true_and, sc_ii, sc_ss, sc_bb, sc_ni, sc_in, sc_is, sc_si, sc_nn, decide_true, decide_false, reduceCtorEq, Bool.false_eq_true, if_true, if_false, ite_true, ite_false, exists_const, eq_self, false_and, and_false, or_false, false_or, exists_false, Evl.rLenS, rSum, wipe, tYes, exists_eq, exists_eq', rIxL, rIxT, rIxS, exists_and_right, gt_iff_lt, not_true_eq_false, not_false_eq_true, Bool.not_true, Bool.not_false, decide_eq_true_eq, Nat.reduceSub, Nat.reduceAdd, List.append_assoc, tChain, tDIn, tDNotIn, sDDel, tAug, ipI]
      exact ⟨TC, dx, _, ho, C.cl, C.n3, .ref d, rfl, d, rfl, .ref a, .inl ⟨kvs, Sum.inr z, .inl hd, rfl, ev.symm⟩, a, rfl, xs, sq_l ha, .ref p, atI_of i0 ep, qG z i rfl rfl hh i0 i1 p _ hp k1⟩
def spTA (TC NO : Addr) : Sp := fun vs H Q E => ∃ (o l : Addr) (zs : List Str) (m : Nat) (first : Int) (rs : List (Str × PyData)), vs = [.ref o, .ref l] ∧ TabAt TC H o m first rs ∧ H l = some (.lst (zs.map V.str)) ∧ zs.length ≤ 1000 ∧ (∀ z ∈ zs, z.length ≤ 1000) ∧
  ((∀ z ∈ zs, z ∈ rs.map (·.1)) → ∀ (r : Addr) (H' : Hp), H r = none → H' r = some (.lst ((walkR rs first zs).map V.int)) → Kp [] H H' → Q (.ref r) H') ∧
  (∀ (i : Nat) (z : Str), zs[i]? = some z → hasD rs (.str z) = false → (∀ j y, j < i → zs[j]? = some y → hasD rs (.str y) = true) → ∀ (e : Addr) (H' : Hp), H e = none → H' e = some (.xd [("name", .str z)]) → Kp [] H H' → E (.ref NO) (some e) H')
def ChkIn (o l : Addr) (zs : List Str) (rs : List (Str × PyData)) (H : Hp) (i : Nat) (σ : L2.St) (H' : Hp) : Prop := ∃ c, σ = [some (.ref o), some (.ref l), c, none, none, none] ∧ Kp [] H H' ∧ ∀ j y, j < i → zs[j]? = some y → hasD rs (.str y) = true
def AnsIn (o l r : Addr) (zs : List Str) (first : Int) (rs : List (Str × PyData)) (H : Hp) (i : Nat) (σ : L2.St) (H' : Hp) : Prop := ∃ c x, σ = [some (.ref o), some (.ref l), c, some (.int (stateR rs first (zs.take i))), some (.ref r), x] ∧ H' r = some (.lst ((walkR rs first (zs.take i)).map V.int)) ∧ Kp [] H H' ∧ 0 ≤ stateR rs first (zs.take i) ∧ stateR rs first (zs.take i) < lenD (rs.headD ("", .none)).2
theorem walkR_snoc (rs : List (Str × PyData)) : ∀ (s : Int) (zs : List Str) (z : Str), walkR rs s (zs ++ [z]) = walkR rs s zs ++ [(cellOf rs z (stateR rs s zs)).1] ∧ stateR rs s (zs ++ [z]) = (cellOf rs z (stateR rs s zs)).2
  | s, [], z => ⟨rfl, rfl⟩
  | s, y :: ys, z => by
    obtain ⟨a, b⟩ := walkR_snoc rs (cellOf rs y s).2 ys z
    constructor
    · show (cellOf rs y s).1 :: walkR rs (cellOf rs y s).2 (ys ++ [z]) = _
      rw [a]; rfl
    · exact b
theorem walkR_len (rs : List (Str × PyData)) : ∀ (s : Int) (zs : List Str), (walkR rs s zs).length = zs.length
  | _, [] => rfl
  | s, z :: zs => by
    show (walkR rs _ zs).length + 1 = zs.length + 1
    rw [walkR_len]
theorem ok_Table_answers {f : Addr} {fd : FuncData} (F : Fun K "answers" "Table.answers" s_Table_answers f fd) (T : Bt mg tL t1 t2) {TC NO fN : Addr} {fdN : FuncData} (C : TbC K mg TC)
    (ME_Table_check_name : Meth K TC "check_name" fN) (bM_Table_check_name : Binds K fdN ["self", "name"] []) (G_Table_check_name : FnOk P w K mg base (L2.CX P w) 3 fN fdN ["self", "name"] (spTK TC NO)) : FnOk P w K mg base (L2.CX P w) 4 f fd ["self", "calls"] (spTA TC NO) := by
  refine F.okX sc_Table_answers (fun vs H Q E h => ?_) (fun cdv A outer s H vs Q E hr h => ?_)
  · obtain ⟨o, l, zs, m, first, rs, rfl, _⟩ := h
    rfl
  · obtain ⟨o, l, zs, m, first, rs, rfl, hT, hl, zl, zb, qG, qN⟩ := h
    have hu := hu_of hr
    refine ⟨_, (pss_cons (ps_for (passes_of rfl) rfl (pi_list (pv 1)) (pg_name (i := 2) sc_Table_answers.nd rfl (Or.inl rfl)) (pss_one (ps_expr (pe_meth (pv 0) C.cl ME_Table_check_name G_Table_check_name (hr.mono (by decide)) bM_Table_check_name .nil (passes_call (E := E) (takes_of rfl rfl rfl rfl) (fun _ _ _ _ h => h)) (pa_cons (pv 2) pa_nil)))))
      (pss_cons (ps_set (i := 3) sc_Table_answers.nd rfl (Or.inl rfl) (pe_fld (pv 0) rfl))
      (pss_cons (ps_set (i := 4) sc_Table_answers.nd rfl (Or.inl rfl) (pe_lst pa_nil))
      (pss_cons (ps_for (passes_of rfl) rfl (pi_list (pv 1)) (pg_name (i := 2) sc_Table_answers.nd rfl (Or.inl rfl)) (pss_cons (ps_asg (pe_ix (r := rIxL K) ix_list (pe_dget hu (pe_fld (pv 0) rfl) (pv 2) (fun _ _ => rfl)) (pv 3) (fun _ _ => rfl)) (pg_tup (n := 2) (by rfl) (pgs_cons (pg_name (i := 5) sc_Table_answers.nd rfl (Or.inl rfl)) (pgs_cons (pg_name (i := 3) sc_Table_answers.nd rfl (Or.inl rfl)) pgs_nil))))
      (pss_one (ps_expr (pe_bm PySem.F.plainAttrs_list PySem.F.slot_list_append PySem.F.type_list_append mt_append (pv 4) (pa_cons (pv 5) pa_nil))))))
      (pss_one (ps_ret (pv 4))))))), ?_⟩
    try simp (maxSteps := 1000000) only [tSeq, tIfS, tTest, tOp, tUn, tCB, tCons, tNil, tVar, tC, rI0, rI, rU, rEq, rNe, tRet, tRetN, tAsg, gName, gSub, tBM, tBM0, tNext, tB, tNot, tAnd, tOr, tIf, tCall, tDrop, tBreak, tCont, L2.start, tDGet, sDPut, tTup, tLst, tDNewK, tRevL, rCat, rAppend, rPop, rSetL, tAndV, tOrV, tNotV, tSl, tPart, tNoPart, tM1, gTup, gCons, gNil, cxK, cxnK, List.map_cons, List.map_nil, List.length_cons, List.length_nil, List.replicate, List.cons_append, List.nil_append, List.append_nil, List.set_cons_zero, List.set_cons_succ, List.getElem?_cons_zero, List.getElem?_cons_succ, Option.some.injEq, V.ref.injEq, V.int.injEq, V.str.injEq, V.bl.injEq, V.ty.injEq, exists_eq_left', exists_eq_left, exists_and_left, List.cons.injEq, and_true, true_and, sc_ii, sc_ss, sc_bb, sc_ni, sc_in, sc_is, sc_si, sc_nn, decide_true, decide_false, reduceCtorEq, Bool.false_eq_true, if_true, if_false, ite_true, ite_false, exists_const, eq_self, false_and, and_false, or_false, false_or, exists_false, Evl.rLenS, rSum, wipe, tYes, exists_eq, exists_eq', rIxL, rIxT, rIxS, exists_and_right, gt_iff_lt, not_true_eq_false, not_false_eq_true, Bool.not_true, Bool.not_false, decide_eq_true_eq, Nat.reduceSub, Nat.reduceAdd, List.append_assoc, tChain, tDIn, tDNotIn, sDDel, tAug, ipI, tFld, tMeth]
    have xl : ∀ {i : Nat} {x : V}, (zs.map V.str)[i]? = some x → ∃ z, zs[i]? = some z ∧ x = .str z := fun {i x} e => by
      rw [List.getElem?_map] at e
      cases ez : zs[i]? with
      | none => rw [ez] at e; cases e
      | some z => rw [ez] at e; cases e; exact ⟨z, rfl, rfl⟩
    refine ⟨.ref l, rfl, l, rfl, ⟨_, sq_l hl⟩, for_list (K := K) (a := l) (xs := zs.map V.str) (ChkIn o l zs rs H) ⟨_, rfl, Kp.refl _ _, fun j y hj => absurd hj (by omega)⟩ (fun i σ H' _ h => by obtain ⟨_, _, k, _⟩ := h; exact k.ls not0 (sq_l hl)) ?_ ?_⟩
    · rintro i x σ H1 hx ⟨c, rfl, k1, hg⟩
      obtain ⟨z, ez, rfl⟩ := xl hx
      try simp (maxSteps := 1000000) only [tSeq, tIfS, tTest, tOp, tUn, tCB, tCons, tNil, tVar, tC, rI0, rI, rU, rEq, rNe, tRet, tRetN, tAsg, gName, gSub, tBM, tBM0, tNext, tB, tNot, tAnd, tOr, tIf, tCall, tDrop, tBreak, tCont, L2.start, tDGet, sDPut, tTup, tLst, tDNewK, tRevL, rCat, rAppend, rPop, rSetL, tAndV, tOrV, tNotV, tSl, tPart, tNoPart, tM1, gTup, gCons, gNil, cxK, cxnK, List.map_cons, List.map_nil, List.length_cons, List.length_nil, List.replicate, List.cons_append, List.nil_append, List.append_nil, List.set_cons_zero, List.set_cons_succ, List.getElem?_cons_zero, List.getElem?_cons_succ, Option.some.injEq, V.ref.injEq, V.int.injEq, V.str.injEq, V.bl.injEq, V.ty.injEq, exists_eq_left', exists_eq_left, exists_and_left, List.cons.injEq, and_true, true_and, sc_ii, sc_ss, sc_bb, sc_ni, sc_in, sc_is, sc_si, sc_nn, decide_true, decide_false, reduceCtorEq, Bool.false_eq_true, if_true, if_false, ite_true, ite_false, exists_const, eq_self, false_and, and_false, or_false, false_or, exists_false, Evl.rLenS, rSum, wipe, tYes, exists_eq, exists_eq', rIxL, rIxT, rIxS, exists_and_right, gt_iff_lt, not_true_eq_false, not_false_eq_true, Bool.not_true, Bool.not_false, decide_eq_true_eq, Nat.reduceSub, Nat.reduceAdd, List.append_assoc, tChain, tDIn, tDNotIn, sDDel, tAug, ipI, tMeth]
      obtain ⟨dx0, d0, ho0⟩ := (hT.kp k1).head
      have szz : szD (.str z) = true := decide_eq_true (zb z (List.mem_of_getElem? ez))
      refine ⟨dx0, _, ho0, rfl, o, .str z, .str z, m, first, rs, rfl, hT.kp k1, .str z, szz, fun hh H2 k2 => ⟨_, rfl, k1.trans k2, fun j y hj ey => ?_⟩, fun hh e H' ne he k => qN i z ez hh hg e H' (k1.free0 ne) he (k1.trans k)⟩
      by_cases zj : j = i
      · subst zj; rw [ez] at ey; cases ey; exact hh
      · exact hg j y (by omega) ey
    · rintro σ H1 ⟨c, rfl, k1, hg⟩
      have hT1 := hT.kp k1
      have allN : ∀ z ∈ zs, z ∈ rs.map (·.1) := fun z hz => by
        obtain ⟨j, ej⟩ := List.getElem?_of_mem hz
        have hh := hg j z (by rw [List.length_map]; exact (List.getElem?_eq_some_iff.mp ej).1) ej
        have h' : (nameS z && decide (z ∈ rs.map (·.1))) = true := hh
        rw [Bool.and_eq_true, decide_eq_true_eq] at h'
        exact h'.2
      try simp (maxSteps := 1000000) only [tSeq, tIfS, tTest, tOp, tUn, tCB, tCons, tNil, tVar, tC, rI0, rI, rU, rEq, rNe, tRet, tRetN, tAsg, gName, gSub, tBM, tBM0, tNext, tB, tNot, tAnd, tOr, tIf, tCall, tDrop, tBreak, tCont, L2.start, tDGet, sDPut, tTup, tLst, tDNewK, tRevL, rCat, rAppend, rPop, rSetL, tAndV, tOrV, tNotV, tSl, tPart, tNoPart, tM1, gTup, gCons, gNil, cxK, cxnK, List.map_cons, List.map_nil, List.length_cons, List.length_nil, List.replicate, List.cons_append, List.nil_append, List.append_nil, List.set_cons_zero, List.set_cons_succ, List.getElem?_cons_zero, List.getElem?_cons_succ, Option.some.injEq, V.ref.injEq, V.int.injEq, V.str.injEq, V.bl.injEq, V.ty.injEq, exists_eq_left', exists_eq_left, exists_and_left, List.cons.injEq, and_true, true_and, sc_ii, sc_ss, sc_bb, sc_ni, sc_in, sc_is, sc_si, sc_nn, decide_true, decide_false, reduceCtorEq, Bool.false_eq_true, if_true, if_false, ite_true, ite_false, exists_const, eq_self, false_and, and_false, or_false, false_or, exists_false, Evl.rLenS, rSum, wipe, tYes, exists_eq, exists_eq', rIxL, rIxT, rIxS, exists_and_right, gt_iff_lt, not_true_eq_false, not_false_eq_true, Bool.not_true, Bool.not_false, decide_eq_true_eq, Nat.reduceSub, Nat.reduceAdd, List.append_assoc, tChain, tDIn, tDNotIn, sDDel, tAug, ipI, tFld]
      obtain ⟨dx0, d0, kvs0, ho0, hd0, hr0, nd0, rb0, em0, f00, f01⟩ := hT1
      refine ⟨TC, dx0, _, ho0, C.cl, C.n2, _, rfl, small (by decide), fun r nr => ?_⟩
      have nrH : H r = none := k1.free0 nr
      have k1r : Kp [] H (upd H1 r (.lst [])) := k1.trans (Kp.new nr)
      refine ⟨.ref l, rfl, l, rfl, ⟨_, sq_l (k1r _ _ not0 hl)⟩, for_list (K := K) (a := l) (xs := zs.map V.str) (AnsIn o l r zs first rs H) ⟨c, none, rfl, upd_same, k1r, f00, by rw [← em0]; exact f01⟩ (fun i σ H' _ h => by obtain ⟨_, _, _, _, k, _⟩ := h; exact k.ls not0 (sq_l hl)) ?_ ?_⟩
      · rintro i x σ H2 hx ⟨c, y, rfl, hr2, k2, s0, s1⟩
        obtain ⟨z, ez, rfl⟩ := xl hx
        try simp (maxSteps := 1000000) only [tSeq, tIfS, tTest, tOp, tUn, tCB, tCons, tNil, tVar, tC, rI0, rI, rU, rEq, rNe, tRet, tRetN, tAsg, gName, gSub, tBM, tBM0, tNext, tB, tNot, tAnd, tOr, tIf, tCall, tDrop, tBreak, tCont, L2.start, tDGet, sDPut, tTup, tLst, tDNewK, tRevL, rCat, rAppend, rPop, rSetL, tAndV, tOrV, tNotV, tSl, tPart, tNoPart, tM1, gTup, gCons, gNil, cxK, cxnK, List.map_cons, List.map_nil, List.length_cons, List.length_nil, List.replicate, List.cons_append, List.nil_append, List.append_nil, List.set_cons_zero, List.set_cons_succ, List.getElem?_cons_zero, List.getElem?_cons_succ, Option.some.injEq, V.ref.injEq, V.int.injEq, V.str.injEq, V.bl.injEq, V.ty.injEq, exists_eq_left', exists_eq_left, exists_and_left, List.cons.injEq, and_true, true_and, sc_ii, sc_ss, sc_bb, sc_ni, sc_in, sc_is, sc_si, sc_nn, decide_true, decide_false, reduceCtorEq, Bool.false_eq_true, if_true, if_false, ite_true, ite_false, exists_const, eq_self, false_and, and_false, or_false, false_or, exists_false, Evl.rLenS, rSum, wipe, tYes, exists_eq, exists_eq', rIxL, rIxT, rIxS, exists_and_right, gt_iff_lt, not_true_eq_false, not_false_eq_true, Bool.not_true, Bool.not_false, decide_eq_true_eq, Nat.reduceSub, Nat.reduceAdd, List.append_assoc, tChain, tDIn, tDNotIn, sDDel, tAug, ipI, tFld]
        obtain ⟨dx, d, kvs, a, xs, ho, hd, ev, ha, hl2, cell⟩ := (hT.kp k2).get (allN z (List.mem_of_getElem? ez))
        have s1' := s1
        rw [← em0] at s1'
        obtain ⟨p, ep, hp, c0, c1, d0, d1⟩ := cell _ s0 s1'
        refine ⟨TC, dx, _, ho, C.cl, C.n3, .ref d, rfl, d, rfl, .ref a, .inl ⟨kvs, Sum.inr z, .inl hd, rfl, ev.symm⟩, a, rfl, xs, sq_l ha, .ref p, atI_of s0 ep, ?_⟩
        have wl : ((walkR rs first (zs.take i)).map V.int).length ≤ 1000 := by
          rw [List.length_map, walkR_len, List.length_take]; omega
        have wz := walkR_snoc rs first (zs.take i) z
        refine ⟨p, rfl, _, sq_t hp, rfl, _, _, rfl, _, _, rfl, rfl, .inl ⟨rfl, _, sq_l hr2⟩, _, hr2, smallL (by omega), ?_⟩
        refine ⟨some (.str z), some (.int (cellOf rs z (stateR rs first (zs.take i))).1), ?_, ?_, k2.wr nrH, ?_⟩
        · rw [take_snoc ez, wz.2]
        · rw [take_snoc ez, wz.1, upd_same, List.map_append]; rfl
        · rw [take_snoc ez, wz.2, ← em0]
          exact ⟨d0, d1⟩
      · rintro σ H2 ⟨c, y, rfl, hr2, k2, s0, s1⟩
        rw [List.length_map, List.take_length] at hr2
        try simp (maxSteps := 1000000) only [tSeq, tIfS, tTest, tOp, tUn, tCB, tCons, tNil, tVar, tC, rI0, rI, rU, rEq, rNe, tRet, tRetN, tAsg, gName, gSub, tBM, tBM0, tNext, tB, tNot, tAnd, tOr, tIf, tCall, tDrop, tBreak, tCont, L2.start, tDGet, sDPut, tTup, tLst, tDNewK, tRevL, rCat, rAppend, rPop, rSetL, tAndV, tOrV, tNotV, tSl, tPart, tNoPart, tM1, gTup, gCons, gNil, cxK, cxnK, List.map_cons, List.map_nil, List.length_cons, List.length_nil, List.replicate, List.cons_append, List.nil_append, List.append_nil, List.set_cons_zero, List.set_cons_succ, List.getElem?_cons_zero, List.getElem?_cons_succ, Option.some.injEq, V.ref.injEq, V.int.injEq, V.str.injEq, V.bl.injEq, V.ty.injEq, exists_eq_left', exists_eq_left, exists_and_left, List.cons.injEq, and_true, true_and, sc_ii, sc_ss, sc_bb, sc_ni, sc_in, sc_is, sc_si, sc_nn, decide_true, decide_false, reduceCtorEq, Bool.false_eq_true, if_true, if_false, ite_true, ite_false, exists_const, eq_self, false_and, and_false, or_false, false_or, exists_false, Evl.rLenS, rSum, wipe, tYes, exists_eq, exists_eq', rIxL, rIxT, rIxS, exists_and_right, gt_iff_lt, not_true_eq_false, not_false_eq_true, Bool.not_true, Bool.not_false, decide_eq_true_eq, Nat.reduceSub, Nat.reduceAdd, List.append_assoc, tChain, tDIn, tDNotIn, sDDel, tAug, ipI]
        exact qG allN r H2 nrH hr2 k2
end
end My

set_option Elab.async false
set_option linter.all false
set_option maxRecDepth 100000
set_option maxHeartbeats 4000000
namespace My
open PySem L2 NdefX
abbrev s_Looks_rows : Stmt := mtop 22 0
theorem sc_Looks_rows : DScope ["self", "__class__", "rows", "state"] ["self"] (defScope s_Looks_rows) := dscope_by (by decide +kernel)
abbrev s_Ups_rows : Stmt := mtop 23 0
theorem sc_Ups_rows : DScope ["self", "__class__", "rows", "state"] ["self"] (defScope s_Ups_rows) := dscope_by (by decide +kernel)
abbrev s_Tops_rows : Stmt := mtop 24 0
theorem sc_Tops_rows : DScope ["self", "__class__", "rows", "last", "state"] ["self"] (defScope s_Tops_rows) := dscope_by (by decide +kernel)
abbrev s_Clears_rows : Stmt := mtop 25 0
theorem sc_Clears_rows : DScope ["self", "__class__", "rows", "_"] ["self"] (defScope s_Clears_rows) := dscope_by (by decide +kernel)
abbrev s_Ticket_rows : Stmt := mtop 26 0
theorem sc_Ticket_rows : DScope ["self", "__class__"] ["self"] (defScope s_Ticket_rows) := dscope_by (by decide +kernel)
abbrev s_Latch_rows : Stmt := mtop 27 0
theorem sc_Latch_rows : DScope ["self", "__class__"] ["self"] (defScope s_Latch_rows) := dscope_by (by decide +kernel)
abbrev s_Meter_rows : Stmt := mtop 28 0
theorem sc_Meter_rows : DScope ["self", "__class__"] ["self"] (defScope s_Meter_rows) := dscope_by (by decide +kernel)
abbrev s_Shape_rows : Stmt := mtop 21 1
theorem sc_Shape_rows : FnScope ["self"] ["self"] (defScope s_Shape_rows) := ⟨rfl, rfl, rfl, by decide +kernel, rfl, by decide +kernel, by decide +kernel⟩
abbrev s_Shape_init : Stmt := mtop 21 0
theorem sc_Shape_init : FnScope ["self", "size"] ["self", "size"] (defScope s_Shape_init) := ⟨rfl, rfl, rfl, by decide +kernel, rfl, by decide +kernel, by decide +kernel⟩

/-! ### the rows of the shapes -/
def doP (z : Str) (m s : Nat) : Int × Int := if z = ("look" : Str) then ((s : Int), (s : Int)) else if z = ("up" : Str) then ((s : Int), (((s + 1) % m : Nat) : Int)) else if z = ("top" : Str) then (if s + 1 = m then 1 else 0, (m : Int) - 1) else (0, 0)
def TupsAt (f : Nat → Int × Int) (xs : List V) (m : Nat) (H : Hp) : Prop := xs.length = m ∧ ∀ s, s < m → ∃ p, xs[s]? = some (.ref p) ∧ H p = some (.tup [.int (f s).1, .int (f s).2])
def RowAt (f : Nat → Int × Int) (m : Nat) (H0 H : Hp) (v : V) : Prop := ∃ l xs, v = .ref l ∧ H0 l = none ∧ H l = some (.lst xs) ∧ TupsAt f xs m H
def ShRows (H0 H : Hp) (r : Addr) (nm : List Str) (m : Nat) : Prop := H0 r = none ∧ ∃ kvs : List (Key × V), H r = some (.dK kvs) ∧ kvs.length = nm.length ∧ ∀ (i : Nat) (z : Str), nm[i]? = some z → ∃ v, kvs[i]? = some (Sum.inr z, v) ∧ RowAt (doP z m) m H0 H v
theorem TupsAt.kpN {f : Nat → Int × Int} {xs : List V} {m : Nat} {H H' : Hp} {S : List Addr} (h : TupsAt f xs m H) (k : Kp S H H') (hS : ∀ a ∈ S, ∀ xs, H a ≠ some (.tup xs) ∧ H a ≠ some (.lst xs)) : TupsAt f xs m H' :=
  ⟨h.1, fun s hs => by
    obtain ⟨p, e, hp⟩ := h.2 s hs
    exact ⟨p, e, k _ _ (fun m => (hS _ m _).1 hp) hp⟩⟩
theorem RowAt.kpN {f : Nat → Int × Int} {m : Nat} {H0 H H' : Hp} {v : V} {S : List Addr} (h : RowAt f m H0 H v) (k : Kp S H H') (hS : ∀ a ∈ S, ∀ xs, H a ≠ some (.tup xs) ∧ H a ≠ some (.lst xs)) : RowAt f m H0 H' v := by
  obtain ⟨l, xs, rfl, n, e, t⟩ := h
  exact ⟨l, xs, rfl, n, k _ _ (fun m => (hS _ m _).2 e) e, t.kpN k hS⟩
theorem no0 {H : Hp} : ∀ a ∈ ([] : List Addr), ∀ xs, H a ≠ some (.tup xs) ∧ H a ≠ some (.lst xs) := fun a m => absurd m (by simp)
/-- a new row by a comprehension over range(m) -/
theorem rowLc {ta : TA} {te : TE} {σ : L2.St} {H : Hp} {Q : VK} {j : Nat} (m : Nat) (hm : m ≤ 1000) (f : Nat → Int × Int) (ht : ∀ R : List V → Hp → Prop, R [.int (m : Nat)] H → ta σ H R) (hw : ∀ x, wipe ((wipe σ [j]).set j (some x)) [j] = wipe σ [j])
    (body : ∀ (i : Nat) (H' : Hp) (R : VK), i < m → Kp [] H H' → (∀ p, H' p = none → R (.ref p) (upd H' p (.tup [.int (f i).1, .int (f i).2]))) → te ((wipe σ [j]).set j (some (.int (i : Nat)))) H' R)
    (fin : ∀ D xs H', H D = none → H' D = some (.lst xs) → TupsAt f xs m H' → Kp [] H H' → Q (.ref D) H') : tLc (iRng1 ta) (gName j) tYes te [j] σ H Q := by
  refine ht _ ⟨(m : Nat), rfl, by omega, by omega, fun D nD => ?_⟩
  refine lc_range (lo := 0) (n := ((m : Nat) : Int).toNat) (fun i H' => ∃ xs, H' D = some (.lst xs) ∧ TupsAt f xs i H' ∧ Kp [] H H') ⟨[], upd_same, ⟨rfl, fun s hs => absurd hs (by omega)⟩, Kp.new nD⟩ (fun i H' hi h => ?_) fun H' h => ?_
  · obtain ⟨xs, hD, ht, k⟩ := h
    refine ⟨by rw [Int.zero_add]; exact hw _, ?_⟩
    show te _ H' _
    have hi' : i < m := by omega
    rw [Int.zero_add]
    refine body i H' _ hi' k fun p np => ?_
    have kp : Kp [] H' (upd H' p (.tup [.int (f i).1, .int (f i).2])) := Kp.new np
    have hD2 := kp _ _ not0 hD
    refine ⟨xs, hD2, smallL (by rw [ht.1]; omega), xs ++ [.ref p], upd_same, ⟨by rw [List.length_append, ht.1]; rfl, fun s hs => ?_⟩, (k.trans kp).wr nD⟩
    have kw : Kp [D] (upd H' p (.tup [.int (f i).1, .int (f i).2])) (upd (upd H' p (.tup [.int (f i).1, .int (f i).2])) D (.lst (xs ++ [.ref p]))) := (Kp.refl [D] _).put List.mem_cons_self
    by_cases z : s = i
    · subst z
      have pD : p ≠ D := fun e => by rw [e, hD] at np; cases np
      exact ⟨p, by rw [List.getElem?_append_right (by rw [ht.1]; exact Nat.le_refl _), ht.1, Nat.sub_self]; rfl, by rw [upd_ne pD, upd_same]⟩
    · obtain ⟨p', e', hp'⟩ := ht.2 s (by omega)
      have pD : p' ≠ D := fun e => by rw [e, hD] at hp'; cases hp'
      exact ⟨p', by rw [List.getElem?_append_left (by rw [ht.1]; omega)]; exact e', kw _ _ (not1 pD) (kp _ _ not0 hp')⟩
  · obtain ⟨xs, hD, ht, k⟩ := h
    exact fin D xs H' nD hD (by rw [Int.toNat_natCast] at ht; exact ht) k
theorem kvs_keys {kvs : List (Key × V)} {nm : List Str} {Rw : Str → V → Prop} (hl : kvs.length = nm.length) (h : ∀ (i : Nat) (z : Str), nm[i]? = some z → ∃ v, kvs[i]? = some (Sum.inr z, v) ∧ Rw z v) : kvs.map (·.1) = nm.map (fun z => (Sum.inr z : Key)) := by
  refine List.ext_getElem? fun i => ?_
  rw [List.getElem?_map, List.getElem?_map]
  cases e : nm[i]? with
  | none =>
    have : kvs[i]? = none := by
      rw [List.getElem?_eq_none_iff] at e ⊢
      omega
    rw [this]; rfl
  | some z =>
    obtain ⟨v, ev, _⟩ := h i z e
    rw [ev]; rfl
/-- a row more -/
theorem ShRows.put {H0 H H2 : Hp} {r D : Addr} {nm : List Str} {m : Nat} {z : Str} {xs : List V} (h : ShRows H0 H r nm m) (k : Kp [] H H2) (hz : z ∉ nm) (h0 : H0 D = none) (hD : H2 D = some (.lst xs)) (ht : TupsAt (doP z m) xs m H2) :
    ∃ kvs, H2 r = some (.dK kvs) ∧ kvs.length = nm.length ∧ putK kvs (Sum.inr z) (.ref D) = kvs ++ [(Sum.inr z, .ref D)] ∧ ShRows H0 (upd H2 r (.dK (kvs ++ [(Sum.inr z, .ref D)]))) r (nm ++ [z]) m := by
  obtain ⟨n, kvs, hr, hl, hv⟩ := h
  have hr2 := k _ _ not0 hr
  have kw : Kp [r] H2 (upd H2 r (.dK (kvs ++ [(Sum.inr z, .ref D)]))) := (Kp.refl [r] _).put List.mem_cons_self
  have rno : ∀ a ∈ [r], ∀ xs', H2 a ≠ some (.tup xs') ∧ H2 a ≠ some (.lst xs') := fun a ha xs' => by
    rw [List.mem_singleton.mp ha, hr2]
    exact ⟨fun z => (by cases z), fun z => (by cases z)⟩
  refine ⟨kvs, hr2, hl, putK_new _ (valV_fresh ?_), n, _, upd_same, by simp [hl], fun i y e => ?_⟩
  · rw [kvs_keys hl hv]
    intro hm
    obtain ⟨z', hz', e⟩ := List.mem_map.mp hm
    cases e
    exact hz hz'
  · rcases Nat.lt_trichotomy i nm.length with w | w | w
    · rw [List.getElem?_append_left w] at e
      obtain ⟨v, ev, hrow⟩ := hv i y e
      exact ⟨v, by rw [List.getElem?_append_left (by omega)]; exact ev, (hrow.kpN k no0).kpN kw rno⟩
    · subst w
      rw [List.getElem?_append_right (Nat.le_refl _), Nat.sub_self] at e
      cases e
      refine ⟨.ref D, by rw [← hl, List.getElem?_append_right (Nat.le_refl _), Nat.sub_self]; rfl, D, xs, rfl, h0, kw _ _ (fun e => ?_) hD, ht.kpN kw rno⟩
      rw [List.mem_singleton.mp e, hr2] at hD
      cases hD
    · rw [List.getElem?_append_right (by omega), List.getElem?_eq_none (by simp; omega)] at e
      cases e
/-- the promise of rows, for objects of the classes in S -/
def spRw (S : Addr → List Str → Prop) : Sp := fun vs H Q _ => ∃ (o C dx : Addr) (m : Nat) (nm : List Str), vs = [.ref o] ∧ S C nm ∧ H o = some (.ins C dx [("size", .int (m : Nat))]) ∧ 1 ≤ m ∧ m ≤ 9 ∧ ∀ r H', H r = none → ShRows H H' r nm m → Kp [] H H' → Q (.ref r) H'
/-- the classes of S, behind a def that adds the row z -/
def addS (z : Str) (S : Addr → List Str → Prop) : Addr → List Str → Prop := fun C nm => ∃ nm' : List Str, nm = nm' ++ [z] ∧ S C nm' ∧ z ∉ nm' ∧ nm'.length ≤ 3
theorem psat_cons1 {X : Cx} {c : Code} {st : Stmt} {t : TS} (h1 : PSat1 X c st t) : PSat X c [st] t := by
  refine ⟨fun pins s σ H D I q => ?_⟩
  refine PySem.ks_wpAt_execs_cons (wpAt_mono (h1.run pins s σ H D I q) (fun f s1 r => ?_) fun _ _ z => z)
  cases f with
  | next => exact wpAt_of_wpAny ((pss_nil).run pins s1 _ _ D r.choose_spec.choose_spec.1 r.choose_spec.choose_spec.2)
  | brk => exact r
  | cont => exact r
  | ret u => exact r
structure ClsS (K : PySem.W.Frag) (C : Addr) : Prop where
  cl : Cls K C
  n1 : NoAttr K C "size"
structure BtS (mg : Str → Option Value) : Prop where
  b_super : mg "super" = none
  b_range : mg "range" = none
def NextIs (P : Program) (w : World) (K : PySem.W.Frag) (mg : Str → Option Value) (base : Heap) (k : Nat) (D : Addr) (S : Addr → List Str → Prop) : Prop := ∀ C nm, S C nm → ∃ (f : Addr) (fd : FuncData) (sp : Sp), Nxt K C D "rows" f ∧ Binds K fd ["self"] [] ∧ FnOk P w K mg base CX0 k f fd ["self"] sp ∧
  ∀ (o dx : Addr) (m : Nat) (H : Hp) (Q : VK) (E : XK), H o = some (.ins C dx [("size", .int (m : Nat))]) → 1 ≤ m → m ≤ 9 → (∀ r H', H r = none → ShRows H H' r nm m → Kp [] H H' → Q (.ref r) H') → sp [.ref o] H Q E
theorem fldSz {K : PySem.W.Frag} {σ : L2.St} {H : Hp} {Q : VK} {o C dx : Addr} {m : Nat} (h0 : σ[0]? = some (some (.ref o))) (ho : H o = some (.ins C dx [("size", .int (m : Nat))])) (c : Cls K C) (n : NoAttr K C "size") (q : Q (.int (m : Nat)) H) : tFld K (tVar 0) "size" σ H Q := ⟨_, h0, o, C, dx, _, _, rfl, ho, c, n, rfl, q⟩
theorem doP_look (m i : Nat) : doP "look" m i = ((i : Int), (i : Int)) := if_pos rfl
theorem doP_up (m i : Nat) : doP "up" m i = ((i : Int), (((i + 1) % m : Nat) : Int)) := (if_neg (by decide +kernel)).trans (if_pos rfl)
theorem doP_top (m i : Nat) : doP "top" m i = (if i + 1 = m then 1 else 0, (m : Int) - 1) := (if_neg (by decide +kernel)).trans ((if_neg (by decide +kernel)).trans (if_pos rfl))
theorem doP_clear (m i : Nat) : doP "clear" m i = (0, 0) := (if_neg (by decide +kernel)).trans ((if_neg (by decide +kernel)).trans (if_neg (by decide +kernel)))
/-- the row is put under its name -/
theorem rowFin {H H1 H2 : Hp} {r D : Addr} {nm' : List Str} {m : Nat} {z : Str} {xs : List V} {Q : VK} (hR : ShRows H H1 r nm' m) (k1 : Kp [] H H1) (hz : z ∉ nm') (hn3 : nm'.length ≤ 3) (q : ∀ r H', H r = none → ShRows H H' r (nm' ++ [z]) m → Kp [] H H' → Q (.ref r) H') (nr : H r = none)
    (nD : H1 D = none) (hD : H2 D = some (.lst xs)) (ht : TupsAt (doP z m) xs m H2) (k2 : Kp [] H1 H2) : ∃ x, DPut H2 r (V.str z) (.ref D) x ∧ Q (.ref r) x := by
  have nD0 : H D = none := by
    cases e : H D with
    | none => rfl
    | some x => rw [k1 _ _ not0 e] at nD; cases nD
  obtain ⟨kvs, hr2, hl, hp, hS⟩ := hR.put k2 hz nD0 hD ht
  refine ⟨_, DPut.k (k := Sum.inr z) hr2 (by rw [hl]; exact smallL (by omega)), ?_⟩
  rw [hp]
  exact q r _ nr hS ((k1.trans k2).wr nr)
section
variable {P : Program} {w : World} {K : PySem.W.Frag} {mg : Str → Option Value} {base : Heap}
theorem ok_Looks_rows {f cc cda D : Addr} {fd : FuncData} (F : FunX K "rows" "Looks.rows" s_Looks_rows f fd cc cda D) (T : BtS mg) (G : CodeF K P cda) (hDc : ∃ cd, PySem.W.clsIn K D = some cd) {k : Nat} (hk : 1 ≤ k) {S : Addr → List Str → Prop} (C : ∀ C nm, S C nm → ClsS K C) (nx : NextIs P w K mg base k D S) :
    FnOk P w K mg base CX0 (k + 1) f fd ["self"] (spRw (addS ("look" : Str) S)) := by
  have F0 := F
  obtain ⟨oc, od, kV, doc, pm, an, ct, osl, hfd, lk, hcd⟩ := F0.ex
  obtain ⟨cl, cld, csl, hcc⟩ := F0.cell
  refine F.okD (CX := CX0) sc_Looks_rows (fun vs H Q E h => ?_) (fun A outer s H vs Q E hr h => ?_)
  · obtain ⟨o, C, dx, m, nm, rfl, _⟩ := h
    rfl
  · obtain ⟨o, Co, dx, m, nm, rfl, ⟨nm', rfl, hS, hz, hn3⟩, ho, m1, m9, q⟩ := h
    have hu := hu_of hr
    have NS := (C Co nm' hS).n1
    obtain ⟨f2, fd2, sp2, hN, hb2, hF2, hsp2⟩ := nx Co nm' hS
    refine ⟨_, psat_cons (psat_asg (peat_super hDc G hr pass0 lk (by rw [hfd]; rfl) hcc T.b_super rfl rfl rfl rfl rfl (Or.inl rfl) rfl rfl rfl) sc_Looks_rows.nd (i := 2) rfl (Or.inl rfl) (Or.inl rfl) rfl) (pss_cons (ps_dput hu (pv 2) pe_str (pe_lc (own := [("state", 3)]) (g := (gName 3)) (tt := tYes) rfl sc_Looks_rows.nd (pi_range1 rfl T.b_range (pa_cons (pe_fld (pv 0) rfl) pa_nil)) (blkOk_by (N := ["self", "__class__", "rows", "state"]) (sc := defScope s_Looks_rows) (by decide +kernel)) (fun _ _ _ _ _ => (pg_name (i := 3) sc_Looks_rows.nd rfl (Or.inl rfl))) (fun _ _ _ _ _ => pts_nil) (fun _ _ _ _ _ => (pe_tup (pa_cons (pv 3) (pa_cons (pv 3) pa_nil))))) rfl)
      (pss_one (ps_ret (pv 2)))), ?_⟩
    try simp (maxSteps := 1000000) only [tSeq, tIfS, tTest, tOp, tUn, tCB, tCons, tNil, tVar, tC, rI0, rI, rU, rEq, rNe, tRet, tRetN, tAsg, gName, gSub, tBM, tBM0, tNext, tB, tNot, tAnd, tOr, tIf, tCall, tDrop, tBreak, tCont, L2.start, tDGet, sDPut, tTup, tLst, tDNewK, tRevL, rCat, rAppend, rPop, rSetL, tAndV, tOrV, tNotV, tSl, tPart, tNoPart, tM1, gTup, gCons, gNil, cxK, cxnK, List.map_cons, List.map_nil, List.length_cons, List.length_nil, List.replicate, List.cons_append, List.nil_append, List.append_nil, List.set_cons_zero, List.set_cons_succ, List.getElem?_cons_zero, List.getElem?_cons_succ, Option.some.injEq, V.ref.injEq, V.int.injEq, V.str.injEq, V.bl.injEq, V.ty.injEq, exists_eq_left', exists_eq_left, exists_and_left, List.cons.injEq, and_true, true_and, sc_ii, sc_ss, sc_bb, sc_ni, sc_in, sc_is, sc_si, sc_nn, decide_true, decide_false, reduceCtorEq, Bool.false_eq_true, if_true, if_false, ite_true, ite_false, exists_const, eq_self, false_and, and_false, or_false, false_or, exists_false, Evl.rLenS, rSum, wipe, tYes, exists_eq, exists_eq', rIxL, rIxT, rIxS, exists_and_right, gt_iff_lt, not_true_eq_false, not_false_eq_true, Bool.not_true, Bool.not_false, decide_eq_true_eq, Nat.reduceSub, Nat.reduceAdd, List.append_assoc, tChain, tDIn, tDNotIn, sDDel, tAug, ipI, startF]
    unfold tSupM
    refine ⟨o, Co, dx, _, f2, fd2, ["self"], sp2, rfl, ho, hN, hb2, hF2, hsp2 o dx m H _ _ ho m1 m9 fun r H1 nr hR k1 => ?_⟩
    try simp (maxSteps := 1000000) only [tSeq, tIfS, tTest, tOp, tUn, tCB, tCons, tNil, tVar, tC, rI0, rI, rU, rEq, rNe, tRet, tRetN, tAsg, gName, gSub, tBM, tBM0, tNext, tB, tNot, tAnd, tOr, tIf, tCall, tDrop, tBreak, tCont, L2.start, tDGet, sDPut, tTup, tLst, tDNewK, tRevL, rCat, rAppend, rPop, rSetL, tAndV, tOrV, tNotV, tSl, tPart, tNoPart, tM1, gTup, gCons, gNil, cxK, cxnK, List.map_cons, List.map_nil, List.length_cons, List.length_nil, List.replicate, List.cons_append, List.nil_append, List.append_nil, List.set_cons_zero, List.set_cons_succ, List.getElem?_cons_zero, List.getElem?_cons_succ, Option.some.injEq, V.ref.injEq, V.int.injEq, V.str.injEq, V.bl.injEq, V.ty.injEq, exists_eq_left', exists_eq_left, exists_and_left, List.cons.injEq, and_true, true_and, sc_ii, sc_ss, sc_bb, sc_ni, sc_in, sc_is, sc_si, sc_nn, decide_true, decide_false, reduceCtorEq, Bool.false_eq_true, if_true, if_false, ite_true, ite_false, exists_const, eq_self, false_and, and_false, or_false, false_or, exists_false, Evl.rLenS, rSum, wipe, tYes, exists_eq, exists_eq', rIxL, rIxT, rIxS, exists_and_right, gt_iff_lt, not_true_eq_false, not_false_eq_true, Bool.not_true, Bool.not_false, decide_eq_true_eq, Nat.reduceSub, Nat.reduceAdd, List.append_assoc, tChain, tDIn, tDNotIn, sDDel, tAug, ipI, sDPut]
    have ho1 := k1 _ _ not0 ho
    refine rowLc m (by omega) (doP "look" m) (fun R hR => ?_) (fun x => rfl) (fun i H' R hi k hR2 => ?_) fun D2 xs H2 nD hD ht k2 => rowFin hR k1 hz hn3 q nr nD hD ht k2
    · try simp (maxSteps := 1000000) only [tSeq, tIfS, tTest, tOp, tUn, tCB, tCons, tNil, tVar, tC, rI0, rI, rU, rEq, rNe, tRet, tRetN, tAsg, gName, gSub, tBM, tBM0, tNext, tB, tNot, tAnd, tOr, tIf, tCall, tDrop, tBreak, tCont, L2.start, tDGet, sDPut, tTup, tLst, tDNewK, tRevL, rCat, rAppend, rPop, rSetL, tAndV, tOrV, tNotV, tSl, tPart, tNoPart, tM1, gTup, gCons, gNil, cxK, cxnK, List.map_cons, List.map_nil, List.length_cons, List.length_nil, List.replicate, List.cons_append, List.nil_append, List.append_nil, List.set_cons_zero, List.set_cons_succ, List.getElem?_cons_zero, List.getElem?_cons_succ, Option.some.injEq, V.ref.injEq, V.int.injEq, V.str.injEq, V.bl.injEq, V.ty.injEq, exists_eq_left', exists_eq_left, exists_and_left, List.cons.injEq, and_true, true_and, sc_ii, sc_ss, sc_bb, sc_ni, sc_in, sc_is, sc_si, sc_nn, decide_true, decide_false, reduceCtorEq, Bool.false_eq_true, if_true, if_false, ite_true, ite_false, exists_const, eq_self, false_and, and_false, or_false, false_or, exists_false, Evl.rLenS, rSum, wipe, tYes, exists_eq, exists_eq', rIxL, rIxT, rIxS, exists_and_right, gt_iff_lt, not_true_eq_false, not_false_eq_true, Bool.not_true, Bool.not_false, decide_eq_true_eq, Nat.reduceSub, Nat.reduceAdd, List.append_assoc, tChain, tDIn, tDNotIn, sDDel, tAug, ipI]
      exact fldSz rfl ho1 (C Co nm' hS).cl NS hR
    · try simp (maxSteps := 1000000) only [tSeq, tIfS, tTest, tOp, tUn, tCB, tCons, tNil, tVar, tC, rI0, rI, rU, rEq, rNe, tRet, tRetN, tAsg, gName, gSub, tBM, tBM0, tNext, tB, tNot, tAnd, tOr, tIf, tCall, tDrop, tBreak, tCont, L2.start, tDGet, sDPut, tTup, tLst, tDNewK, tRevL, rCat, rAppend, rPop, rSetL, tAndV, tOrV, tNotV, tSl, tPart, tNoPart, tM1, gTup, gCons, gNil, cxK, cxnK, List.map_cons, List.map_nil, List.length_cons, List.length_nil, List.replicate, List.cons_append, List.nil_append, List.append_nil, List.set_cons_zero, List.set_cons_succ, List.getElem?_cons_zero, List.getElem?_cons_succ, Option.some.injEq, V.ref.injEq, V.int.injEq, V.str.injEq, V.bl.injEq, V.ty.injEq, exists_eq_left', exists_eq_left, exists_and_left, List.cons.injEq, and_true, true_and, sc_ii, sc_ss, sc_bb, sc_ni, sc_in, sc_is, sc_si, sc_nn, decide_true, decide_false, reduceCtorEq, Bool.false_eq_true, if_true, if_false, ite_true, ite_false, exists_const, eq_self, false_and, and_false, or_false, false_or, exists_false, Evl.rLenS, rSum, wipe, tYes, exists_eq, exists_eq', rIxL, rIxT, rIxS, exists_and_right, gt_iff_lt, not_true_eq_false, not_false_eq_true, Bool.not_true, Bool.not_false, decide_eq_true_eq, Nat.reduceSub, Nat.reduceAdd, List.append_assoc, tChain, tDIn, tDNotIn, sDDel, tAug, ipI]
      refine ⟨small (by omega), fun p np => ?_⟩
      have z := hR2 p np
      rw [doP_look] at z
      exact z
theorem ok_Ups_rows {f cc cda D : Addr} {fd : FuncData} (F : FunX K "rows" "Ups.rows" s_Ups_rows f fd cc cda D) (T : BtS mg) (G : CodeF K P cda) (hDc : ∃ cd, PySem.W.clsIn K D = some cd) {k : Nat} (hk : 1 ≤ k) {S : Addr → List Str → Prop} (C : ∀ C nm, S C nm → ClsS K C) (nx : NextIs P w K mg base k D S) :
    FnOk P w K mg base CX0 (k + 1) f fd ["self"] (spRw (addS ("up" : Str) S)) := by
  have F0 := F
  obtain ⟨oc, od, kV, doc, pm, an, ct, osl, hfd, lk, hcd⟩ := F0.ex
  obtain ⟨cl, cld, csl, hcc⟩ := F0.cell
  refine F.okD (CX := CX0) sc_Ups_rows (fun vs H Q E h => ?_) (fun A outer s H vs Q E hr h => ?_)
  · obtain ⟨o, C, dx, m, nm, rfl, _⟩ := h
    rfl
  · obtain ⟨o, Co, dx, m, nm, rfl, ⟨nm', rfl, hS, hz, hn3⟩, ho, m1, m9, q⟩ := h
    have hu := hu_of hr
    have NS := (C Co nm' hS).n1
    obtain ⟨f2, fd2, sp2, hN, hb2, hF2, hsp2⟩ := nx Co nm' hS
    refine ⟨_, psat_cons (psat_asg (peat_super hDc G hr pass0 lk (by rw [hfd]; rfl) hcc T.b_super rfl rfl rfl rfl rfl (Or.inr rfl) rfl rfl rfl) sc_Ups_rows.nd (i := 2) rfl (Or.inl rfl) (Or.inl rfl) rfl) (pss_cons (ps_dput hu (pv 2) pe_str (pe_lc (own := [("state", 3)]) (g := (gName 3)) (tt := tYes) rfl sc_Ups_rows.nd (pi_range1 rfl T.b_range (pa_cons (pe_fld (pv 0) rfl) pa_nil)) (blkOk_by (N := ["self", "__class__", "rows", "state"]) (sc := defScope s_Ups_rows) (by decide +kernel)) (fun _ _ _ _ _ => (pg_name (i := 3) sc_Ups_rows.nd rfl (Or.inl rfl))) (fun _ _ _ _ _ => pts_nil) (fun _ _ _ _ _ => (pe_tup (pa_cons (pv 3) (pa_cons (pe_op op_mod (pe_op op_add (pv 3) pe_int) ((pe_fld (pv 0) rfl) : PE _ _ (tFld K _ "size"))) pa_nil))))) rfl)
      (pss_one (ps_ret (pv 2)))), ?_⟩
    try simp (maxSteps := 1000000) only [tSeq, tIfS, tTest, tOp, tUn, tCB, tCons, tNil, tVar, tC, rI0, rI, rU, rEq, rNe, tRet, tRetN, tAsg, gName, gSub, tBM, tBM0, tNext, tB, tNot, tAnd, tOr, tIf, tCall, tDrop, tBreak, tCont, L2.start, tDGet, sDPut, tTup, tLst, tDNewK, tRevL, rCat, rAppend, rPop, rSetL, tAndV, tOrV, tNotV, tSl, tPart, tNoPart, tM1, gTup, gCons, gNil, cxK, cxnK, List.map_cons, List.map_nil, List.length_cons, List.length_nil, List.replicate, List.cons_append, List.nil_append, List.append_nil, List.set_cons_zero, List.set_cons_succ, List.getElem?_cons_zero, List.getElem?_cons_succ, Option.some.injEq, V.ref.injEq, V.int.injEq, V.str.injEq, V.bl.injEq, V.ty.injEq, exists_eq_left', exists_eq_left, exists_and_left, List.cons.injEq, and_true, true_and, sc_ii, sc_ss, sc_bb, sc_ni, sc_in, sc_is, sc_si, sc_nn, decide_true, decide_false, reduceCtorEq, Bool.false_eq_true, if_true, if_false, ite_true, ite_false, exists_const, eq_self, false_and, and_false, or_false, false_or, exists_false, Evl.rLenS, rSum, wipe, tYes, exists_eq, exists_eq', rIxL, rIxT, rIxS, exists_and_right, gt_iff_lt, not_true_eq_false, not_false_eq_true, Bool.not_true, Bool.not_false, decide_eq_true_eq, Nat.reduceSub, Nat.reduceAdd, List.append_assoc, tChain, tDIn, tDNotIn, sDDel, tAug, ipI, startF]
    unfold tSupM
    refine ⟨o, Co, dx, _, f2, fd2, ["self"], sp2, rfl, ho, hN, hb2, hF2, hsp2 o dx m H _ _ ho m1 m9 fun r H1 nr hR k1 => ?_⟩
    try simp (maxSteps := 1000000) only [tSeq, tIfS, tTest, tOp, tUn, tCB, tCons, tNil, tVar, tC, rI0, rI, rU, rEq, rNe, tRet, tRetN, tAsg, gName, gSub, tBM, tBM0, tNext, tB, tNot, tAnd, tOr, tIf, tCall, tDrop, tBreak, tCont, L2.start, tDGet, sDPut, tTup, tLst, tDNewK, tRevL, rCat, rAppend, rPop, rSetL, tAndV, tOrV, tNotV, tSl, tPart, tNoPart, tM1, gTup, gCons, gNil, cxK, cxnK, List.map_cons, List.map_nil, List.length_cons, List.length_nil, List.replicate, List.cons_append, List.nil_append, List.append_nil, List.set_cons_zero, List.set_cons_succ, List.getElem?_cons_zero, List.getElem?_cons_succ, Option.some.injEq, V.ref.injEq, V.int.injEq, V.str.injEq, V.bl.injEq, V.ty.injEq, exists_eq_left', exists_eq_left, exists_and_left, List.cons.injEq, and_true, true_and, sc_ii, sc_ss, sc_bb, sc_ni, sc_in, sc_is, sc_si, sc_nn, decide_true, decide_false, reduceCtorEq, Bool.false_eq_true, if_true, if_false, ite_true, ite_false, exists_const, eq_self, false_and, and_false, or_false, false_or, exists_false, Evl.rLenS, rSum, wipe, tYes, exists_eq, exists_eq', rIxL, rIxT, rIxS, exists_and_right, gt_iff_lt, not_true_eq_false, not_false_eq_true, Bool.not_true, Bool.not_false, decide_eq_true_eq, Nat.reduceSub, Nat.reduceAdd, List.append_assoc, tChain, tDIn, tDNotIn, sDDel, tAug, ipI, sDPut]
    have ho1 := k1 _ _ not0 ho
    refine rowLc m (by omega) (doP "up" m) (fun R hR => ?_) (fun x => rfl) (fun i H' R hi k hR2 => ?_) fun D2 xs H2 nD hD ht k2 => rowFin hR k1 hz hn3 q nr nD hD ht k2
    · try simp (maxSteps := 1000000) only [tSeq, tIfS, tTest, tOp, tUn, tCB, tCons, tNil, tVar, tC, rI0, rI, rU, rEq, rNe, tRet, tRetN, tAsg, gName, gSub, tBM, tBM0, tNext, tB, tNot, tAnd, tOr, tIf, tCall, tDrop, tBreak, tCont, L2.start, tDGet, sDPut, tTup, tLst, tDNewK, tRevL, rCat, rAppend, rPop, rSetL, tAndV, tOrV, tNotV, tSl, tPart, tNoPart, tM1, gTup, gCons, gNil, cxK, cxnK, List.map_cons, List.map_nil, List.length_cons, List.length_nil, List.replicate, List.cons_append, List.nil_append, List.append_nil, List.set_cons_zero, List.set_cons_succ, List.getElem?_cons_zero, List.getElem?_cons_succ, Option.some.injEq, V.ref.injEq, V.int.injEq, V.str.injEq, V.bl.injEq, V.ty.injEq, exists_eq_left', exists_eq_left, exists_and_left, List.cons.injEq, and_true, true_and, sc_ii, sc_ss, sc_bb, sc_ni, sc_in, sc_is, sc_si, sc_nn, decide_true, decide_false, reduceCtorEq, Bool.false_eq_true, if_true, if_false, ite_true, ite_false, exists_const, eq_self, false_and, and_false, or_false, false_or, exists_false, Evl.rLenS, rSum, wipe, tYes, exists_eq, exists_eq', rIxL, rIxT, rIxS, exists_and_right, gt_iff_lt, not_true_eq_false, not_false_eq_true, Bool.not_true, Bool.not_false, decide_eq_true_eq, Nat.reduceSub, Nat.reduceAdd, List.append_assoc, tChain, tDIn, tDNotIn, sDDel, tAug, ipI]
      exact fldSz rfl ho1 (C Co nm' hS).cl NS hR
    · try simp (maxSteps := 1000000) only [tSeq, tIfS, tTest, tOp, tUn, tCB, tCons, tNil, tVar, tC, rI0, rI, rU, rEq, rNe, tRet, tRetN, tAsg, gName, gSub, tBM, tBM0, tNext, tB, tNot, tAnd, tOr, tIf, tCall, tDrop, tBreak, tCont, L2.start, tDGet, sDPut, tTup, tLst, tDNewK, tRevL, rCat, rAppend, rPop, rSetL, tAndV, tOrV, tNotV, tSl, tPart, tNoPart, tM1, gTup, gCons, gNil, cxK, cxnK, List.map_cons, List.map_nil, List.length_cons, List.length_nil, List.replicate, List.cons_append, List.nil_append, List.append_nil, List.set_cons_zero, List.set_cons_succ, List.getElem?_cons_zero, List.getElem?_cons_succ, Option.some.injEq, V.ref.injEq, V.int.injEq, V.str.injEq, V.bl.injEq, V.ty.injEq, exists_eq_left', exists_eq_left, exists_and_left, List.cons.injEq, and_true, true_and, sc_ii, sc_ss, sc_bb, sc_ni, sc_in, sc_is, sc_si, sc_nn, decide_true, decide_false, reduceCtorEq, Bool.false_eq_true, if_true, if_false, ite_true, ite_false, exists_const, eq_self, false_and, and_false, or_false, false_or, exists_false, Evl.rLenS, rSum, wipe, tYes, exists_eq, exists_eq', rIxL, rIxT, rIxS, exists_and_right, gt_iff_lt, not_true_eq_false, not_false_eq_true, Bool.not_true, Bool.not_false, decide_eq_true_eq, Nat.reduceSub, Nat.reduceAdd, List.append_assoc, tChain, tDIn, tDNotIn, sDDel, tAug, ipI]
      refine fldSz rfl (k _ _ not0 ho1) (C Co nm' hS).cl NS ⟨(m : Int), rfl, by omega, small (by omega), fun p np => ?_⟩
      have z := hR2 p np
      rw [doP_up] at z
      exact z
theorem ok_Clears_rows {f cc cda D : Addr} {fd : FuncData} (F : FunX K "rows" "Clears.rows" s_Clears_rows f fd cc cda D) (T : BtS mg) (G : CodeF K P cda) (hDc : ∃ cd, PySem.W.clsIn K D = some cd) {k : Nat} (hk : 1 ≤ k) {S : Addr → List Str → Prop} (C : ∀ C nm, S C nm → ClsS K C) (nx : NextIs P w K mg base k D S) :
    FnOk P w K mg base CX0 (k + 1) f fd ["self"] (spRw (addS ("clear" : Str) S)) := by
  have F0 := F
  obtain ⟨oc, od, kV, doc, pm, an, ct, osl, hfd, lk, hcd⟩ := F0.ex
  obtain ⟨cl, cld, csl, hcc⟩ := F0.cell
  refine F.okD (CX := CX0) sc_Clears_rows (fun vs H Q E h => ?_) (fun A outer s H vs Q E hr h => ?_)
  · obtain ⟨o, C, dx, m, nm, rfl, _⟩ := h
    rfl
  · obtain ⟨o, Co, dx, m, nm, rfl, ⟨nm', rfl, hS, hz, hn3⟩, ho, m1, m9, q⟩ := h
    have hu := hu_of hr
    have NS := (C Co nm' hS).n1
    obtain ⟨f2, fd2, sp2, hN, hb2, hF2, hsp2⟩ := nx Co nm' hS
    refine ⟨_, psat_cons (psat_asg (peat_super hDc G hr pass0 lk (by rw [hfd]; rfl) hcc T.b_super rfl rfl rfl rfl rfl (Or.inl rfl) rfl rfl rfl) sc_Clears_rows.nd (i := 2) rfl (Or.inl rfl) (Or.inl rfl) rfl) (pss_cons (ps_dput hu (pv 2) pe_str (pe_lc (own := [("_", 3)]) (g := (gName 3)) (tt := tYes) rfl sc_Clears_rows.nd (pi_range1 rfl T.b_range (pa_cons (pe_fld (pv 0) rfl) pa_nil)) (blkOk_by (N := ["self", "__class__", "rows", "_"]) (sc := defScope s_Clears_rows) (by decide +kernel)) (fun _ _ _ _ _ => (pg_name (i := 3) sc_Clears_rows.nd rfl (Or.inl rfl))) (fun _ _ _ _ _ => pts_nil) (fun _ _ _ _ _ => (pe_tup (pa_cons pe_int (pa_cons pe_int pa_nil))))) rfl)
      (pss_one (ps_ret (pv 2)))), ?_⟩
    try simp (maxSteps := 1000000) only [tSeq, tIfS, tTest, tOp, tUn, tCB, tCons, tNil, tVar, tC, rI0, rI, rU, rEq, rNe, tRet, tRetN, tAsg, gName, gSub, tBM, tBM0, tNext, tB, tNot, tAnd, tOr, tIf, tCall, tDrop, tBreak, tCont, L2.start, tDGet, sDPut, tTup, tLst, tDNewK, tRevL, rCat, rAppend, rPop, rSetL, tAndV, tOrV, tNotV, tSl, tPart, tNoPart, tM1, gTup, gCons, gNil, cxK, cxnK, List.map_cons, List.map_nil, List.length_cons, List.length_nil, List.replicate, List.cons_append, List.nil_append, List.append_nil, List.set_cons_zero, List.set_cons_succ, List.getElem?_cons_zero, List.getElem?_cons_succ, Option.some.injEq, V.ref.injEq, V.int.injEq, V.str.injEq, V.bl.injEq, V.ty.injEq, exists_eq_left', exists_eq_left, exists_and_left, List.cons.injEq, and_true, true_and, sc_ii, sc_ss, sc_bb, sc_ni, sc_in, sc_is, sc_si, sc_nn, decide_true, decide_false, reduceCtorEq, Bool.false_eq_true, if_true, if_false, ite_true, ite_false, exists_const, eq_self, false_and, and_false, or_false, false_or, exists_false, Evl.rLenS, rSum, wipe, tYes, exists_eq, exists_eq', rIxL, rIxT, rIxS, exists_and_right, gt_iff_lt, not_true_eq_false, not_false_eq_true, Bool.not_true, Bool.not_false, decide_eq_true_eq, Nat.reduceSub, Nat.reduceAdd, List.append_assoc, tChain, tDIn, tDNotIn, sDDel, tAug, ipI, startF]
    unfold tSupM
    refine ⟨o, Co, dx, _, f2, fd2, ["self"], sp2, rfl, ho, hN, hb2, hF2, hsp2 o dx m H _ _ ho m1 m9 fun r H1 nr hR k1 => ?_⟩
    try simp (maxSteps := 1000000) only [tSeq, tIfS, tTest, tOp, tUn, tCB, tCons, tNil, tVar, tC, rI0, rI, rU, rEq, rNe, tRet, tRetN, tAsg, gName, gSub, tBM, tBM0, tNext, tB, tNot, tAnd, tOr, tIf, tCall, tDrop, tBreak, tCont, L2.start, tDGet, sDPut, tTup, tLst, tDNewK, tRevL, rCat, rAppend, rPop, rSetL, tAndV, tOrV, tNotV, tSl, tPart, tNoPart, tM1, gTup, gCons, gNil, cxK, cxnK, List.map_cons, List.map_nil, List.length_cons, List.length_nil, List.replicate, List.cons_append, List.nil_append, List.append_nil, List.set_cons_zero, List.set_cons_succ, List.getElem?_cons_zero, List.getElem?_cons_succ, Option.some.injEq, V.ref.injEq, V.int.injEq, V.str.injEq, V.bl.injEq, V.ty.injEq, exists_eq_left', exists_eq_left, exists_and_left, List.cons.injEq, and_true, true_and, sc_ii, sc_ss, sc_bb, sc_ni, sc_in, sc_is, sc_si, sc_nn, decide_true, decide_false, reduceCtorEq, Bool.false_eq_true, if_true, if_false, ite_true, ite_false, exists_const, eq_self, false_and, and_false, or_false, false_or, exists_false, Evl.rLenS, rSum, wipe, tYes, exists_eq, exists_eq', rIxL, rIxT, rIxS, exists_and_right, gt_iff_lt, not_true_eq_false, not_false_eq_true, Bool.not_true, Bool.not_false, decide_eq_true_eq, Nat.reduceSub, Nat.reduceAdd, List.append_assoc, tChain, tDIn, tDNotIn, sDDel, tAug, ipI, sDPut]
    have ho1 := k1 _ _ not0 ho
    refine rowLc m (by omega) (doP "clear" m) (fun R hR => ?_) (fun x => rfl) (fun i H' R hi k hR2 => ?_) fun D2 xs H2 nD hD ht k2 => rowFin hR k1 hz hn3 q nr nD hD ht k2
    · try simp (maxSteps := 1000000) only [tSeq, tIfS, tTest, tOp, tUn, tCB, tCons, tNil, tVar, tC, rI0, rI, rU, rEq, rNe, tRet, tRetN, tAsg, gName, gSub, tBM, tBM0, tNext, tB, tNot, tAnd, tOr, tIf, tCall, tDrop, tBreak, tCont, L2.start, tDGet, sDPut, tTup, tLst, tDNewK, tRevL, rCat, rAppend, rPop, rSetL, tAndV, tOrV, tNotV, tSl, tPart, tNoPart, tM1, gTup, gCons, gNil, cxK, cxnK, List.map_cons, List.map_nil, List.length_cons, List.length_nil, List.replicate, List.cons_append, List.nil_append, List.append_nil, List.set_cons_zero, List.set_cons_succ, List.getElem?_cons_zero, List.getElem?_cons_succ, Option.some.injEq, V.ref.injEq, V.int.injEq, V.str.injEq, V.bl.injEq, V.ty.injEq, exists_eq_left', exists_eq_left, exists_and_left, List.cons.injEq, and_true, true_and, sc_ii, sc_ss, sc_bb, sc_ni, sc_in, sc_is, sc_si, sc_nn, decide_true, decide_false, reduceCtorEq, Bool.false_eq_true, if_true, if_false, ite_true, ite_false, exists_const, eq_self, false_and, and_false, or_false, false_or, exists_false, Evl.rLenS, rSum, wipe, tYes, exists_eq, exists_eq', rIxL, rIxT, rIxS, exists_and_right, gt_iff_lt, not_true_eq_false, not_false_eq_true, Bool.not_true, Bool.not_false, decide_eq_true_eq, Nat.reduceSub, Nat.reduceAdd, List.append_assoc, tChain, tDIn, tDNotIn, sDDel, tAug, ipI]
      exact fldSz rfl ho1 (C Co nm' hS).cl NS hR
    · try simp (maxSteps := 1000000) only [tSeq, tIfS, tTest, tOp, tUn, tCB, tCons, tNil, tVar, tC, rI0, rI, rU, rEq, rNe, tRet, tRetN, tAsg, gName, gSub, tBM, tBM0, tNext, tB, tNot, tAnd, tOr, tIf, tCall, tDrop, tBreak, tCont, L2.start, tDGet, sDPut, tTup, tLst, tDNewK, tRevL, rCat, rAppend, rPop, rSetL, tAndV, tOrV, tNotV, tSl, tPart, tNoPart, tM1, gTup, gCons, gNil, cxK, cxnK, List.map_cons, List.map_nil, List.length_cons, List.length_nil, List.replicate, List.cons_append, List.nil_append, List.append_nil, List.set_cons_zero, List.set_cons_succ, List.getElem?_cons_zero, List.getElem?_cons_succ, Option.some.injEq, V.ref.injEq, V.int.injEq, V.str.injEq, V.bl.injEq, V.ty.injEq, exists_eq_left', exists_eq_left, exists_and_left, List.cons.injEq, and_true, true_and, sc_ii, sc_ss, sc_bb, sc_ni, sc_in, sc_is, sc_si, sc_nn, decide_true, decide_false, reduceCtorEq, Bool.false_eq_true, if_true, if_false, ite_true, ite_false, exists_const, eq_self, false_and, and_false, or_false, false_or, exists_false, Evl.rLenS, rSum, wipe, tYes, exists_eq, exists_eq', rIxL, rIxT, rIxS, exists_and_right, gt_iff_lt, not_true_eq_false, not_false_eq_true, Bool.not_true, Bool.not_false, decide_eq_true_eq, Nat.reduceSub, Nat.reduceAdd, List.append_assoc, tChain, tDIn, tDNotIn, sDDel, tAug, ipI]
      refine ⟨small (by omega), fun p np => ?_⟩
      have z := hR2 p np
      rw [doP_clear] at z
      exact z
theorem ok_Tops_rows {f cc cda D : Addr} {fd : FuncData} (F : FunX K "rows" "Tops.rows" s_Tops_rows f fd cc cda D) (T : BtS mg) (G : CodeF K P cda) (hDc : ∃ cd, PySem.W.clsIn K D = some cd) {k : Nat} (hk : 1 ≤ k) {S : Addr → List Str → Prop} (C : ∀ C nm, S C nm → ClsS K C) (nx : NextIs P w K mg base k D S) :
    FnOk P w K mg base CX0 (k + 1) f fd ["self"] (spRw (addS ("top" : Str) S)) := by
  have F0 := F
  obtain ⟨oc, od, kV, doc, pm, an, ct, osl, hfd, lk, hcd⟩ := F0.ex
  obtain ⟨cl, cld, csl, hcc⟩ := F0.cell
  refine F.okD (CX := CX0) sc_Tops_rows (fun vs H Q E h => ?_) (fun A outer s H vs Q E hr h => ?_)
  · obtain ⟨o, C, dx, m, nm, rfl, _⟩ := h
    rfl
  · obtain ⟨o, Co, dx, m, nm, rfl, ⟨nm', rfl, hS, hz, hn3⟩, ho, m1, m9, q⟩ := h
    have hu := hu_of hr
    have NS := (C Co nm' hS).n1
    obtain ⟨f2, fd2, sp2, hN, hb2, hF2, hsp2⟩ := nx Co nm' hS
    refine ⟨_, psat_cons (psat_asg (peat_super hDc G hr pass0 lk (by rw [hfd]; rfl) hcc T.b_super rfl rfl rfl rfl rfl (Or.inl rfl) rfl rfl rfl) sc_Tops_rows.nd (i := 2) rfl (Or.inl rfl) (Or.inl rfl) rfl) (pss_cons (ps_set (i := 3) sc_Tops_rows.nd rfl (Or.inr rfl) (pe_op op_sub (pe_fld (pv 0) rfl) pe_int))
      (pss_cons (ps_dput hu (pv 2) pe_str (pe_lc (own := [("state", 4)]) (g := (gName 4)) (tt := tYes) rfl sc_Tops_rows.nd (pi_range1 rfl T.b_range (pa_cons (pe_fld (pv 0) rfl) pa_nil)) (blkOk_by (N := ["self", "__class__", "rows", "last", "state"]) (sc := defScope s_Tops_rows) (by decide +kernel)) (fun _ _ _ _ _ => (pg_name (i := 4) sc_Tops_rows.nd rfl (Or.inl rfl))) (fun _ _ _ _ _ => pts_nil) (fun _ _ _ _ _ => (pe_tup (pa_cons (pe_ifExp (pt_cmpR op_eq (pv 4) (pv 3) (nomark _)) pe_int pe_int) (pa_cons (pv 3) pa_nil))))) rfl)
      (pss_one (ps_ret (pv 2))))), ?_⟩
    try simp (maxSteps := 1000000) only [tSeq, tIfS, tTest, tOp, tUn, tCB, tCons, tNil, tVar, tC, rI0, rI, rU, rEq, rNe, tRet, tRetN, tAsg, gName, gSub, tBM, tBM0, tNext, tB, tNot, tAnd, tOr, tIf, tCall, tDrop, tBreak, tCont, L2.start, tDGet, sDPut, tTup, tLst, tDNewK, tRevL, rCat, rAppend, rPop, rSetL, tAndV, tOrV, tNotV, tSl, tPart, tNoPart, tM1, gTup, gCons, gNil, cxK, cxnK, List.map_cons, List.map_nil, List.length_cons, List.length_nil, List.replicate, List.cons_append, List.nil_append, List.append_nil, List.set_cons_zero, List.set_cons_succ, List.getElem?_cons_zero, List.getElem?_cons_succ, Option.some.injEq, V.ref.injEq, V.int.injEq, V.str.injEq, V.bl.injEq, V.ty.injEq, exists_eq_left', exists_eq_left, exists_and_left, List.cons.injEq, and_true, true_and, sc_ii, sc_ss, sc_bb, sc_ni, sc_in, sc_is, sc_si, sc_nn, decide_true, decide_false, reduceCtorEq, Bool.false_eq_true, if_true, if_false, ite_true, ite_false, exists_const, eq_self, false_and, and_false, or_false, false_or, exists_false, Evl.rLenS, rSum, wipe, tYes, exists_eq, exists_eq', rIxL, rIxT, rIxS, exists_and_right, gt_iff_lt, not_true_eq_false, not_false_eq_true, Bool.not_true, Bool.not_false, decide_eq_true_eq, Nat.reduceSub, Nat.reduceAdd, List.append_assoc, tChain, tDIn, tDNotIn, sDDel, tAug, ipI, startF]
    unfold tSupM
    refine ⟨o, Co, dx, _, f2, fd2, ["self"], sp2, rfl, ho, hN, hb2, hF2, hsp2 o dx m H _ _ ho m1 m9 fun r H1 nr hR k1 => ?_⟩
    try simp (maxSteps := 1000000) only [tSeq, tIfS, tTest, tOp, tUn, tCB, tCons, tNil, tVar, tC, rI0, rI, rU, rEq, rNe, tRet, tRetN, tAsg, gName, gSub, tBM, tBM0, tNext, tB, tNot, tAnd, tOr, tIf, tCall, tDrop, tBreak, tCont, L2.start, tDGet, sDPut, tTup, tLst, tDNewK, tRevL, rCat, rAppend, rPop, rSetL, tAndV, tOrV, tNotV, tSl, tPart, tNoPart, tM1, gTup, gCons, gNil, cxK, cxnK, List.map_cons, List.map_nil, List.length_cons, List.length_nil, List.replicate, List.cons_append, List.nil_append, List.append_nil, List.set_cons_zero, List.set_cons_succ, List.getElem?_cons_zero, List.getElem?_cons_succ, Option.some.injEq, V.ref.injEq, V.int.injEq, V.str.injEq, V.bl.injEq, V.ty.injEq, exists_eq_left', exists_eq_left, exists_and_left, List.cons.injEq, and_true, true_and, sc_ii, sc_ss, sc_bb, sc_ni, sc_in, sc_is, sc_si, sc_nn, decide_true, decide_false, reduceCtorEq, Bool.false_eq_true, if_true, if_false, ite_true, ite_false, exists_const, eq_self, false_and, and_false, or_false, false_or, exists_false, Evl.rLenS, rSum, wipe, tYes, exists_eq, exists_eq', rIxL, rIxT, rIxS, exists_and_right, gt_iff_lt, not_true_eq_false, not_false_eq_true, Bool.not_true, Bool.not_false, decide_eq_true_eq, Nat.reduceSub, Nat.reduceAdd, List.append_assoc, tChain, tDIn, tDNotIn, sDDel, tAug, ipI, sDPut]
    have ho1 := k1 _ _ not0 ho
    refine fldSz rfl ho1 (C Co nm' hS).cl NS ?_
    try simp (maxSteps := 1000000) only [tSeq, tIfS, tTest, tOp, tUn, tCB, tCons, tNil, tVar, tC, rI0, rI, rU, rEq, rNe, tRet, tRetN, tAsg, gName, gSub, tBM, tBM0, tNext, tB, tNot, tAnd, tOr, tIf, tCall, tDrop, tBreak, tCont, L2.start, tDGet, sDPut, tTup, tLst, tDNewK, tRevL, rCat, rAppend, rPop, rSetL, tAndV, tOrV, tNotV, tSl, tPart, tNoPart, tM1, gTup, gCons, gNil, cxK, cxnK, List.map_cons, List.map_nil, List.length_cons, List.length_nil, List.replicate, List.cons_append, List.nil_append, List.append_nil, List.set_cons_zero, List.set_cons_succ, List.getElem?_cons_zero, List.getElem?_cons_succ, Option.some.injEq, V.ref.injEq, V.int.injEq, V.str.injEq, V.bl.injEq, V.ty.injEq, exists_eq_left', exists_eq_left, exists_and_left, List.cons.injEq, and_true, true_and, sc_ii, sc_ss, sc_bb, sc_ni, sc_in, sc_is, sc_si, sc_nn, decide_true, decide_false, reduceCtorEq, Bool.false_eq_true, if_true, if_false, ite_true, ite_false, exists_const, eq_self, false_and, and_false, or_false, false_or, exists_false, Evl.rLenS, rSum, wipe, tYes, exists_eq, exists_eq', rIxL, rIxT, rIxS, exists_and_right, gt_iff_lt, not_true_eq_false, not_false_eq_true, Bool.not_true, Bool.not_false, decide_eq_true_eq, Nat.reduceSub, Nat.reduceAdd, List.append_assoc, tChain, tDIn, tDNotIn, sDDel, tAug, ipI]
    refine rowLc m (by omega) (doP "top" m) (fun R hR => ?_) (fun x => rfl) (fun i H' R hi k hR2 => ?_) fun D2 xs H2 nD hD ht k2 => rowFin hR k1 hz hn3 q nr nD hD ht k2
    · try simp (maxSteps := 1000000) only [tSeq, tIfS, tTest, tOp, tUn, tCB, tCons, tNil, tVar, tC, rI0, rI, rU, rEq, rNe, tRet, tRetN, tAsg, gName, gSub, tBM, tBM0, tNext, tB, tNot, tAnd, tOr, tIf, tCall, tDrop, tBreak, tCont, L2.start, tDGet, sDPut, tTup, tLst, tDNewK, tRevL, rCat, rAppend, rPop, rSetL, tAndV, tOrV, tNotV, tSl, tPart, tNoPart, tM1, gTup, gCons, gNil, cxK, cxnK, List.map_cons, List.map_nil, List.length_cons, List.length_nil, List.replicate, List.cons_append, List.nil_append, List.append_nil, List.set_cons_zero, List.set_cons_succ, List.getElem?_cons_zero, List.getElem?_cons_succ, Option.some.injEq, V.ref.injEq, V.int.injEq, V.str.injEq, V.bl.injEq, V.ty.injEq, exists_eq_left', exists_eq_left, exists_and_left, List.cons.injEq, and_true, true_and, sc_ii, sc_ss, sc_bb, sc_ni, sc_in, sc_is, sc_si, sc_nn, decide_true, decide_false, reduceCtorEq, Bool.false_eq_true, if_true, if_false, ite_true, ite_false, exists_const, eq_self, false_and, and_false, or_false, false_or, exists_false, Evl.rLenS, rSum, wipe, tYes, exists_eq, exists_eq', rIxL, rIxT, rIxS, exists_and_right, gt_iff_lt, not_true_eq_false, not_false_eq_true, Bool.not_true, Bool.not_false, decide_eq_true_eq, Nat.reduceSub, Nat.reduceAdd, List.append_assoc, tChain, tDIn, tDNotIn, sDDel, tAug, ipI]
      exact fldSz rfl ho1 (C Co nm' hS).cl NS hR
    · try simp (maxSteps := 1000000) only [tSeq, tIfS, tTest, tOp, tUn, tCB, tCons, tNil, tVar, tC, rI0, rI, rU, rEq, rNe, tRet, tRetN, tAsg, gName, gSub, tBM, tBM0, tNext, tB, tNot, tAnd, tOr, tIf, tCall, tDrop, tBreak, tCont, L2.start, tDGet, sDPut, tTup, tLst, tDNewK, tRevL, rCat, rAppend, rPop, rSetL, tAndV, tOrV, tNotV, tSl, tPart, tNoPart, tM1, gTup, gCons, gNil, cxK, cxnK, List.map_cons, List.map_nil, List.length_cons, List.length_nil, List.replicate, List.cons_append, List.nil_append, List.append_nil, List.set_cons_zero, List.set_cons_succ, List.getElem?_cons_zero, List.getElem?_cons_succ, Option.some.injEq, V.ref.injEq, V.int.injEq, V.str.injEq, V.bl.injEq, V.ty.injEq, exists_eq_left', exists_eq_left, exists_and_left, List.cons.injEq, and_true, true_and, sc_ii, sc_ss, sc_bb, sc_ni, sc_in, sc_is, sc_si, sc_nn, decide_true, decide_false, reduceCtorEq, Bool.false_eq_true, if_true, if_false, ite_true, ite_false, exists_const, eq_self, false_and, and_false, or_false, false_or, exists_false, Evl.rLenS, rSum, wipe, tYes, exists_eq, exists_eq', rIxL, rIxT, rIxS, exists_and_right, gt_iff_lt, not_true_eq_false, not_false_eq_true, Bool.not_true, Bool.not_false, decide_eq_true_eq, Nat.reduceSub, Nat.reduceAdd, List.append_assoc, tChain, tDIn, tDNotIn, sDDel, tAug, ipI]
      refine ite2 (fun e => ⟨small (by omega), fun p np => ?_⟩) (fun e => ⟨small (by omega), fun p np => ?_⟩)
      · have z := hR2 p np
        rw [doP_top, if_pos (by omega)] at z
        exact z
      · have z := hR2 p np
        rw [doP_top, if_neg (by omega)] at z
        exact z
theorem ok_Ticket_rows {f cc cda D : Addr} {fd : FuncData} (F : FunX K "rows" "Ticket.rows" s_Ticket_rows f fd cc cda D) (T : BtS mg) (G : CodeF K P cda) (hDc : ∃ cd, PySem.W.clsIn K D = some cd) {k : Nat} (hk : 1 ≤ k) {S : Addr → List Str → Prop} (C : ∀ C nm, S C nm → ClsS K C) (nx : NextIs P w K mg base k D S) :
    FnOk P w K mg base CX0 (k + 1) f fd ["self"] (spRw S) := by
  have F0 := F
  obtain ⟨oc, od, kV, doc, pm, an, ct, osl, hfd, lk, hcd⟩ := F0.ex
  obtain ⟨cl, cld, csl, hcc⟩ := F0.cell
  refine F.okD (CX := CX0) sc_Ticket_rows (fun vs H Q E h => ?_) (fun A outer s H vs Q E hr h => ?_)
  · obtain ⟨o, C, dx, m, nm, rfl, _⟩ := h
    rfl
  · obtain ⟨o, Co, dx, m, nm, rfl, hS, ho, m1, m9, q⟩ := h
    obtain ⟨f2, fd2, sp2, hN, hb2, hF2, hsp2⟩ := nx Co nm hS
    refine ⟨_, psat_cons1 (psat_ret (peat_super hDc G hr pass0 lk (by rw [hfd]; rfl) hcc T.b_super rfl rfl rfl rfl rfl (Or.inl rfl) rfl rfl rfl)), ?_⟩
    try simp (maxSteps := 1000000) only [tSeq, tIfS, tTest, tOp, tUn, tCB, tCons, tNil, tVar, tC, rI0, rI, rU, rEq, rNe, tRet, tRetN, tAsg, gName, gSub, tBM, tBM0, tNext, tB, tNot, tAnd, tOr, tIf, tCall, tDrop, tBreak, tCont, L2.start, tDGet, sDPut, tTup, tLst, tDNewK, tRevL, rCat, rAppend, rPop, rSetL, tAndV, tOrV, tNotV, tSl, tPart, tNoPart, tM1, gTup, gCons, gNil, cxK, cxnK, List.map_cons, List.map_nil, List.length_cons, List.length_nil, List.replicate, List.cons_append, List.nil_append, List.append_nil, List.set_cons_zero, List.set_cons_succ, List.getElem?_cons_zero, List.getElem?_cons_succ, Option.some.injEq, V.ref.injEq, V.int.injEq, V.str.injEq, V.bl.injEq, V.ty.injEq, exists_eq_left', exists_eq_left, exists_and_left, List.cons.injEq, and_true, true_and, sc_ii, sc_ss, sc_bb, sc_ni, sc_in, sc_is, sc_si, sc_nn, decide_true, decide_false, reduceCtorEq, Bool.false_eq_true, if_true, if_false, ite_true, ite_false, exists_const, eq_self, false_and, and_false, or_false, false_or, exists_false, Evl.rLenS, rSum, wipe, tYes, exists_eq, exists_eq', rIxL, rIxT, rIxS, exists_and_right, gt_iff_lt, not_true_eq_false, not_false_eq_true, Bool.not_true, Bool.not_false, decide_eq_true_eq, Nat.reduceSub, Nat.reduceAdd, List.append_assoc, tChain, tDIn, tDNotIn, sDDel, tAug, ipI, startF]
    unfold tSupM
    exact ⟨o, Co, dx, _, f2, fd2, ["self"], sp2, rfl, ho, hN, hb2, hF2, hsp2 o dx m H _ _ ho m1 m9 fun r H1 nr hR k1 => q r H1 nr hR k1⟩
theorem ok_Latch_rows {f cc cda D : Addr} {fd : FuncData} (F : FunX K "rows" "Latch.rows" s_Latch_rows f fd cc cda D) (T : BtS mg) (G : CodeF K P cda) (hDc : ∃ cd, PySem.W.clsIn K D = some cd) {k : Nat} (hk : 1 ≤ k) {S : Addr → List Str → Prop} (C : ∀ C nm, S C nm → ClsS K C) (nx : NextIs P w K mg base k D S) :
    FnOk P w K mg base CX0 (k + 1) f fd ["self"] (spRw S) := by
  have F0 := F
  obtain ⟨oc, od, kV, doc, pm, an, ct, osl, hfd, lk, hcd⟩ := F0.ex
  obtain ⟨cl, cld, csl, hcc⟩ := F0.cell
  refine F.okD (CX := CX0) sc_Latch_rows (fun vs H Q E h => ?_) (fun A outer s H vs Q E hr h => ?_)
  · obtain ⟨o, C, dx, m, nm, rfl, _⟩ := h
    rfl
  · obtain ⟨o, Co, dx, m, nm, rfl, hS, ho, m1, m9, q⟩ := h
    obtain ⟨f2, fd2, sp2, hN, hb2, hF2, hsp2⟩ := nx Co nm hS
    refine ⟨_, psat_cons1 (psat_ret (peat_super hDc G hr pass0 lk (by rw [hfd]; rfl) hcc T.b_super rfl rfl rfl rfl rfl (Or.inl rfl) rfl rfl rfl)), ?_⟩
    try simp (maxSteps := 1000000) only [tSeq, tIfS, tTest, tOp, tUn, tCB, tCons, tNil, tVar, tC, rI0, rI, rU, rEq, rNe, tRet, tRetN, tAsg, gName, gSub, tBM, tBM0, tNext, tB, tNot, tAnd, tOr, tIf, tCall, tDrop, tBreak, tCont, L2.start, tDGet, sDPut, tTup, tLst, tDNewK, tRevL, rCat, rAppend, rPop, rSetL, tAndV, tOrV, tNotV, tSl, tPart, tNoPart, tM1, gTup, gCons, gNil, cxK, cxnK, List.map_cons, List.map_nil, List.length_cons, List.length_nil, List.replicate, List.cons_append, List.nil_append, List.append_nil, List.set_cons_zero, List.set_cons_succ, List.getElem?_cons_zero, List.getElem?_cons_succ, Option.some.injEq, V.ref.injEq, V.int.injEq, V.str.injEq, V.bl.injEq, V.ty.injEq, exists_eq_left', exists_eq_left, exists_and_left, List.cons.injEq, and_true, true_and, sc_ii, sc_ss, sc_bb, sc_ni, sc_in, sc_is, sc_si, sc_nn, decide_true, decide_false, reduceCtorEq, Bool.false_eq_true, if_true, if_false, ite_true, ite_false, exists_const, eq_self, false_and, and_false, or_false, false_or, exists_false, Evl.rLenS, rSum, wipe, tYes, exists_eq, exists_eq', rIxL, rIxT, rIxS, exists_and_right, gt_iff_lt, not_true_eq_false, not_false_eq_true, Bool.not_true, Bool.not_false, decide_eq_true_eq, Nat.reduceSub, Nat.reduceAdd, List.append_assoc, tChain, tDIn, tDNotIn, sDDel, tAug, ipI, startF]
    unfold tSupM
    exact ⟨o, Co, dx, _, f2, fd2, ["self"], sp2, rfl, ho, hN, hb2, hF2, hsp2 o dx m H _ _ ho m1 m9 fun r H1 nr hR k1 => q r H1 nr hR k1⟩
theorem ok_Meter_rows {f cc cda D : Addr} {fd : FuncData} (F : FunX K "rows" "Meter.rows" s_Meter_rows f fd cc cda D) (T : BtS mg) (G : CodeF K P cda) (hDc : ∃ cd, PySem.W.clsIn K D = some cd) {k : Nat} (hk : 1 ≤ k) {S : Addr → List Str → Prop} (C : ∀ C nm, S C nm → ClsS K C) (nx : NextIs P w K mg base k D S) :
    FnOk P w K mg base CX0 (k + 1) f fd ["self"] (spRw S) := by
  have F0 := F
  obtain ⟨oc, od, kV, doc, pm, an, ct, osl, hfd, lk, hcd⟩ := F0.ex
  obtain ⟨cl, cld, csl, hcc⟩ := F0.cell
  refine F.okD (CX := CX0) sc_Meter_rows (fun vs H Q E h => ?_) (fun A outer s H vs Q E hr h => ?_)
  · obtain ⟨o, C, dx, m, nm, rfl, _⟩ := h
    rfl
  · obtain ⟨o, Co, dx, m, nm, rfl, hS, ho, m1, m9, q⟩ := h
    obtain ⟨f2, fd2, sp2, hN, hb2, hF2, hsp2⟩ := nx Co nm hS
    refine ⟨_, psat_cons1 (psat_ret (peat_super hDc G hr pass0 lk (by rw [hfd]; rfl) hcc T.b_super rfl rfl rfl rfl rfl (Or.inl rfl) rfl rfl rfl)), ?_⟩
    try simp (maxSteps := 1000000) only [tSeq, tIfS, tTest, tOp, tUn, tCB, tCons, tNil, tVar, tC, rI0, rI, rU, rEq, rNe, tRet, tRetN, tAsg, gName, gSub, tBM, tBM0, tNext, tB, tNot, tAnd, tOr, tIf, tCall, tDrop, tBreak, tCont, L2.start, tDGet, sDPut, tTup, tLst, tDNewK, tRevL, rCat, rAppend, rPop, rSetL, tAndV, tOrV, tNotV, tSl, tPart, tNoPart, tM1, gTup, gCons, gNil, cxK, cxnK, List.map_cons, List.map_nil, List.length_cons, List.length_nil, List.replicate, List.cons_append, List.nil_append, List.append_nil, List.set_cons_zero, List.set_cons_succ, List.getElem?_cons_zero, List.getElem?_cons_succ, Option.some.injEq, V.ref.injEq, V.int.injEq, V.str.injEq, V.bl.injEq, V.ty.injEq, exists_eq_left', exists_eq_left, exists_and_left, List.cons.injEq, and_true, true_and, sc_ii, sc_ss, sc_bb, sc_ni, sc_in, sc_is, sc_si, sc_nn, decide_true, decide_false, reduceCtorEq, Bool.false_eq_true, if_true, if_false, ite_true, ite_false, exists_const, eq_self, false_and, and_false, or_false, false_or, exists_false, Evl.rLenS, rSum, wipe, tYes, exists_eq, exists_eq', rIxL, rIxT, rIxS, exists_and_right, gt_iff_lt, not_true_eq_false, not_false_eq_true, Bool.not_true, Bool.not_false, decide_eq_true_eq, Nat.reduceSub, Nat.reduceAdd, List.append_assoc, tChain, tDIn, tDNotIn, sDDel, tAug, ipI, startF]
    unfold tSupM
    exact ⟨o, Co, dx, _, f2, fd2, ["self"], sp2, rfl, ho, hN, hb2, hF2, hsp2 o dx m H _ _ ho m1 m9 fun r H1 nr hR k1 => q r H1 nr hR k1⟩

end
end My

set_option Elab.async false
set_option linter.all false
set_option maxRecDepth 100000
set_option maxHeartbeats 4000000
/-! what k14's texts tell of rows and tables -/
namespace My
open PySem L2 NdefX
def cellD (p : Int × Int) : PyData := .tuple [.int p.1, .int p.2]
def rowD2 (k : Nat) (f : Nat → Int × Int) : PyData := .list ((List.range k).map fun i => cellD (f i))
/-- cells as new tuples -/
def Cells (f : Nat → Int × Int) (xs : List V) (k : Nat) (H : Hp) : Prop := xs.length = k ∧ ∀ i, i < k → ∃ p, xs[i]? = some (.ref p) ∧ H p = some (.tup [.int (f i).1, .int (f i).2])
theorem Cells.kp {f : Nat → Int × Int} {xs : List V} {k : Nat} {H H' : Hp} (h : Cells f xs k H) (kp : Kp [] H H') : Cells f xs k H' :=
  ⟨h.1, fun s hs => by
    obtain ⟨p, e, hp⟩ := h.2 s hs
    exact ⟨p, e, kp _ _ not0 hp⟩⟩
theorem Cells.snoc {f : Nat → Int × Int} {xs : List V} {k : Nat} {H : Hp} {p : Addr} (h : Cells f xs k H) (hp : H p = some (.tup [.int (f k).1, .int (f k).2])) : Cells f (xs ++ [.ref p]) (k + 1) H := by
  refine ⟨by rw [List.length_append, h.1]; rfl, fun s hs => ?_⟩
  by_cases z : s = k
  · subst z
    exact ⟨p, by rw [List.getElem?_append_right (by rw [h.1]; exact Nat.le_refl _), h.1, Nat.sub_self]; rfl, hp⟩
  · obtain ⟨p', e', hp'⟩ := h.2 s (by omega)
    exact ⟨p', by rw [List.getElem?_append_left (by rw [h.1]; omega)]; exact e', hp'⟩
theorem Cells.putL {f : Nat → Int × Int} {xs ys zs : List V} {k : Nat} {H : Hp} {D : Addr} (h : Cells f xs k H) (hD : H D = some (.lst ys)) : Cells f xs k (upd H D (.lst zs)) :=
  ⟨h.1, fun s hs => by
    obtain ⟨p, e, hp⟩ := h.2 s hs
    have ne : p ≠ D := fun z => by rw [z, hD] at hp; cases hp
    exact ⟨p, e, by rw [upd_ne ne]; exact hp⟩⟩
theorem Cells.dq {f : Nat → Int × Int} {H : Hp} : ∀ {k : Nat} {xs : List V}, Cells f xs k H → DqAll H xs ((List.range k).map fun i => cellD (f i))
  | 0, [], _ => .nil
  | 0, _ :: _, h => by cases h.1
  | k + 1, xs, h => by
    obtain ⟨p, e, hp⟩ := h.2 k (by omega)
    have hx : xs = xs.take k ++ [.ref p] := by rw [← take_snoc e, List.take_of_length_le (Nat.le_of_eq h.1)]
    have ih : Cells f (xs.take k) k H := ⟨by rw [List.length_take, h.1]; omega, fun i hi => by
      obtain ⟨p', e', hp'⟩ := h.2 i (by omega)
      exact ⟨p', by rw [List.getElem?_take_of_lt hi]; exact e', hp'⟩⟩
    rw [List.range_succ, List.map_append, hx]
    have app : ∀ {vs us : List V} {ds es : List PyData}, DqAll H vs ds → DqAll H us es → DqAll H (vs ++ us) (ds ++ es) := by
      intro vs us ds es h1 h2
      induction vs generalizing ds with
      | nil => cases h1; exact h2
      | cons v r ih =>
        cases h1 with
        | cons a b => exact .cons a (ih b)
    exact app ih.dq (.cons (.tup hp (.cons (.int _) (.cons (.int _) .nil))) .nil)
def namesOf (rs : List (Str × PyData)) : List Str := rs.map (·.1)
theorem rowsBad_of {rs : List (Str × PyData)} {M : Nat} (h1 : rs ≠ []) (h2 : rs.length ≤ 6) (hM : M = lenD (rs.headD ("", .none)).2) (h3 : ∀ q ∈ rs, goodR M q = true) : rowsBad rs = none := by
  cases rs with
  | nil => exact absurd rfl h1
  | cons p r =>
    show (if 7 ≤ (p :: r).length then some ("" : Str) else ((p :: r).find? fun q => !goodR (lenD p.2) q).map (·.1)) = none
    rw [if_neg (by omega)]
    have : ((p :: r).find? fun q => !goodR (lenD p.2) q) = none := by
      rw [List.find?_eq_none]
      intro q hq
      have hM' : M = lenD p.2 := hM
      have := h3 q hq
      rw [hM'] at this
      simp [this]
    rw [this]; rfl
def CellOk (rs : List (Str × PyData)) (m : Nat) : Prop := ∀ z ∈ namesOf rs, ∀ s : Nat, s < m → 0 ≤ (cellOf rs z s).1 ∧ (cellOf rs z s).1 < 10 ∧ 0 ≤ (cellOf rs z s).2 ∧ (cellOf rs z s).2 < m
theorem TabAt.cells {TC : Addr} {H : Hp} {o : Addr} {m : Nat} {first : Int} {rs : List (Str × PyData)} (h : TabAt TC H o m first rs) : CellOk rs m := fun z hz s hs => by
  obtain ⟨_, _, _, _, _, _, _, _, _, _, c⟩ := h.get hz
  obtain ⟨p, _, _, r⟩ := c s (by omega) (by omega)
  exact r
theorem TabAt.bnd {TC : Addr} {H : Hp} {o : Addr} {m : Nat} {first : Int} {rs : List (Str × PyData)} (h : TabAt TC H o m first rs) : rs ≠ [] ∧ rs.length ≤ 6 ∧ (∀ z ∈ namesOf rs, nameS z = true) ∧ 1 ≤ m ∧ m ≤ 100 ∧ 0 ≤ first ∧ first < m ∧ (namesOf rs).Nodup := by
  obtain ⟨dx, d, kvs, ho, hd, hr, nd, rb, em, f0, f1⟩ := h
  have g := rowsBad_none rb
  refine ⟨g.1, g.2.1, fun z hz => ?_, by omega, ?_, f0, f1, nd_names hr.keys nd⟩
  · obtain ⟨⟨z', dd⟩, hm, rfl⟩ := List.mem_map.mp hz
    exact (goodR_row (g.2.2 _ hm)).1
  · cases rs with
    | nil => exact absurd rfl g.1
    | cons p r =>
      obtain ⟨p1, p2⟩ := p
      obtain ⟨_, ds, e, hrow, hl⟩ := goodR_row (g.2.2 (p1, p2) (by simp))
      subst e
      have h' : (decide (1 ≤ ds.length) && (decide (ds.length ≤ 100) && ds.all (pairD ds.length))) = true := hrow
      rw [Bool.and_eq_true, Bool.and_eq_true, decide_eq_true_eq, decide_eq_true_eq] at h'
      have e2 : m = ds.length := em
      omega
theorem good_side {k : Nat} {z : Str} {f : Nat → Int × Int} (hz : nameS z = true) (k1 : 1 ≤ k) (k2 : k ≤ 100) (hf : ∀ i, i < k → 0 ≤ (f i).1 ∧ (f i).1 < 10 ∧ 0 ≤ (f i).2 ∧ (f i).2 < k) : goodR k (z, rowD2 k f) = true := by
  have hl : ((List.range k).map fun i => cellD (f i)).length = k := by simp
  unfold goodR rowD2
  have e2 : lenD (.list ((List.range k).map fun i => cellD (f i))) = k := hl
  have e3 : rowD (.list ((List.range k).map fun i => cellD (f i))) = true := by
    show (decide (1 ≤ ((List.range k).map fun i => cellD (f i)).length) && (decide (((List.range k).map fun i => cellD (f i)).length ≤ 100) && ((List.range k).map fun i => cellD (f i)).all (pairD ((List.range k).map fun i => cellD (f i)).length))) = true
    rw [hl, decide_eq_true k1, decide_eq_true k2, Bool.true_and, Bool.true_and, List.all_eq_true]
    intro d hd
    obtain ⟨i, hi, rfl⟩ := List.mem_map.mp hd
    obtain ⟨a, b, c, e⟩ := hf i (List.mem_range.mp hi)
    show ((decide (0 ≤ (f i).1) && decide ((f i).1 < 10)) && (decide (0 ≤ (f i).2) && decide ((f i).2 < k))) = true
    rw [decide_eq_true a, decide_eq_true b, decide_eq_true c, decide_eq_true e]; rfl
  show (nameS z && (rowD _ && lenD _ == k)) = true
  rw [hz, e3, e2]
  simp
theorem Cells.kpN {f : Nat → Int × Int} {xs : List V} {k : Nat} {H H' : Hp} {S : List Addr} (h : Cells f xs k H) (kp : Kp S H H') (hS : ∀ a ∈ S, ∀ xs, H a ≠ some (.tup xs) ∧ H a ≠ some (.lst xs)) : Cells f xs k H' :=
  ⟨h.1, fun s hs => by
    obtain ⟨p, e, hp⟩ := h.2 s hs
    exact ⟨p, e, kp _ _ (fun m => (hS _ m _).1 hp) hp⟩⟩
theorem dk_no {H : Hp} {d : Addr} {kv : List (Key × V)} (e : H d = some (.dK kv)) : ∀ a ∈ [d], ∀ xs, H a ≠ some (.tup xs) ∧ H a ≠ some (.lst xs) := fun a m xs => by
  rw [List.mem_singleton.mp m, e]
  exact ⟨fun z => (by cases z), fun z => (by cases z)⟩
theorem sz_row {k : Nat} {f : Nat → Int × Int} : szD (rowD2 k f) = true := by
  have : ∀ ds : List PyData, (∀ d ∈ ds, szD d = true) → szAll ds = true := by
    intro ds h
    induction ds with
    | nil => rfl
    | cons d r ih =>
      show (szD d && szAll r) = true
      rw [h d List.mem_cons_self, ih fun x hx => h x (List.mem_cons_of_mem _ hx)]; rfl
  refine this _ fun d hd => ?_
  obtain ⟨i, _, rfl⟩ := List.mem_map.mp hd
  rfl
/-- at d a dict of rows of new tuples -/
def RwAt (H : Hp) (d : Addr) (zs : List Str) (m : Nat) (c : Str → Nat → Int × Int) : Prop := ∃ kvs : List (Key × V), H d = some (.dK kvs) ∧ kvs.length = zs.length ∧ ∀ (i : Nat) (z : Str), zs[i]? = some z → ∃ l xs, kvs[i]? = some (Sum.inr z, .ref l) ∧ H l = some (.lst xs) ∧ Cells (c z) xs m H
theorem RwAt.kp {H H' : Hp} {d : Addr} {zs : List Str} {m : Nat} {c : Str → Nat → Int × Int} (h : RwAt H d zs m c) (k : Kp [] H H') : RwAt H' d zs m c := by
  obtain ⟨kvs, hd, hl, hv⟩ := h
  refine ⟨kvs, k _ _ not0 hd, hl, fun i z e => ?_⟩
  obtain ⟨l, xs, a, b, cc⟩ := hv i z e
  exact ⟨l, xs, a, k _ _ not0 b, cc.kp k⟩
theorem RwAt.keys {kvs : List (Key × V)} {zs : List Str} {P : Nat → Str → V → Prop} (hl : kvs.length = zs.length) (h : ∀ (i : Nat) (z : Str), zs[i]? = some z → ∃ v, kvs[i]? = some (Sum.inr z, v) ∧ P i z v) : kvs.map (·.1) = zs.map (fun z => (Sum.inr z : Key)) := by
  refine List.ext_getElem? fun i => ?_
  rw [List.getElem?_map, List.getElem?_map]
  cases e : zs[i]? with
  | none =>
    have : kvs[i]? = none := by
      rw [List.getElem?_eq_none_iff] at e ⊢
      omega
    rw [this]; rfl
  | some z =>
    obtain ⟨v, ev, _⟩ := h i z e
    rw [ev]; rfl
/-- one row more -/
theorem RwAt.put {H H2 : Hp} {d l : Addr} {zs : List Str} {m : Nat} {c : Str → Nat → Int × Int} {z : Str} {xs : List V} (h : RwAt H d zs m c) (k : Kp [] H H2) (hz : z ∉ zs) (hl : H2 l = some (.lst xs)) (hc : Cells (c z) xs m H2) :
    ∃ kvs, H2 d = some (.dK kvs) ∧ kvs.length = zs.length ∧ putK kvs (Sum.inr z) (.ref l) = kvs ++ [(Sum.inr z, .ref l)] ∧ RwAt (upd H2 d (.dK (kvs ++ [(Sum.inr z, .ref l)]))) d (zs ++ [z]) m c := by
  obtain ⟨kvs, hd, hlen, hv⟩ := h
  have hd2 := k _ _ not0 hd
  have kw : Kp [d] H2 (upd H2 d (.dK (kvs ++ [(Sum.inr z, .ref l)]))) := (Kp.refl [d] _).put List.mem_cons_self
  refine ⟨kvs, hd2, hlen, putK_new _ (valV_fresh ?_), _, upd_same, by simp [hlen], fun i y e => ?_⟩
  · rw [RwAt.keys (P := fun _ _ _ => True) hlen fun i z e => by obtain ⟨l, xs, a, _⟩ := hv i z e; exact ⟨_, a, True.intro⟩]
    intro hm
    obtain ⟨z', hz', e⟩ := List.mem_map.mp hm
    cases e
    exact hz hz'
  · rcases Nat.lt_trichotomy i zs.length with w | w | w
    · rw [List.getElem?_append_left w] at e
      obtain ⟨l', xs', a, b, cc⟩ := hv i y e
      have hb := k _ _ not0 b
      exact ⟨l', xs', by rw [List.getElem?_append_left (by omega)]; exact a, kw _ _ (fun m => (dk_no hd2 _ m _).2 hb) hb, (cc.kp k).kpN kw (dk_no hd2)⟩
    · subst w
      rw [List.getElem?_append_right (Nat.le_refl _), Nat.sub_self] at e
      cases e
      exact ⟨l, xs, by rw [← hlen, List.getElem?_append_right (Nat.le_refl _), Nat.sub_self]; rfl, kw _ _ (fun m => (dk_no hd2 _ m _).2 hl) hl, hc.kpN kw (dk_no hd2)⟩
    · rw [List.getElem?_append_right (by omega), List.getElem?_eq_none (by simp; omega)] at e
      cases e
theorem RwAt.get {H : Hp} {d : Addr} {zs : List Str} {m : Nat} {c : Str → Nat → Int × Int} (h : RwAt H d zs m c) (nd : zs.Nodup) {z : Str} (hz : z ∈ zs) : ∃ kvs l xs, H d = some (.dK kvs) ∧ valV kvs (Sum.inr z) = some (.ref l) ∧ H l = some (.lst xs) ∧ Cells (c z) xs m H := by
  obtain ⟨kvs, hd, hlen, hv⟩ := h
  obtain ⟨i, e⟩ := List.getElem?_of_mem hz
  obtain ⟨l, xs, a, b, cc⟩ := hv i z e
  refine ⟨kvs, l, xs, hd, valV_mem ?_ (List.mem_of_getElem? a), b, cc⟩
  rw [RwAt.keys (P := fun _ _ _ => True) hlen fun i z e => by obtain ⟨l, xs, a, _⟩ := hv i z e; exact ⟨_, a, True.intro⟩]
  exact List.Pairwise.map (R := fun a b => a ≠ b) _ (fun a b h e => h (by cases e; rfl)) nd
def CellB (zs : List Str) (m : Nat) (most : Int) (c : Str → Nat → Int × Int) : Prop := ∀ z ∈ zs, ∀ s, s < m → (0 ≤ (c z s).1 ∧ (c z s).1 < most) ∧ 0 ≤ (c z s).2 ∧ (c z s).2 < m
/-- the table at t tells the rows c -/
def TabIs (TC : Addr) (H : Hp) (t : Addr) (zs : List Str) (m : Nat) (start : Int) (c : Str → Nat → Int × Int) : Prop := ∃ rs, TabAt TC H t m start rs ∧ namesOf rs = zs ∧ ∀ z ∈ zs, ∀ s : Nat, s < m → cellOf rs z s = c z s
def walkC (c : Str → Nat → Int × Int) : Int → List Str → List Int
  | _, [] => []
  | s, z :: zs => (c z s.toNat).1 :: walkC c (c z s.toNat).2 zs
def stateC (c : Str → Nat → Int × Int) : Int → List Str → Int
  | s, [] => s
  | s, z :: zs => stateC c (c z s.toNat).2 zs
theorem walkC_snoc (c : Str → Nat → Int × Int) : ∀ (s : Int) (zs : List Str) (z : Str), walkC c s (zs ++ [z]) = walkC c s zs ++ [(c z (stateC c s zs).toNat).1] ∧ stateC c s (zs ++ [z]) = (c z (stateC c s zs).toNat).2
  | s, [], z => ⟨rfl, rfl⟩
  | s, y :: ys, z => by
    obtain ⟨a, b⟩ := walkC_snoc c (c y s.toNat).2 ys z
    constructor
    · show (c y s.toNat).1 :: walkC c (c y s.toNat).2 (ys ++ [z]) = _
      rw [a]; rfl
    · exact b
theorem walkC_len (c : Str → Nat → Int × Int) : ∀ (s : Int) (zs : List Str), (walkC c s zs).length = zs.length
  | _, [] => rfl
  | s, z :: zs => by
    show (walkC c _ zs).length + 1 = zs.length + 1
    rw [walkC_len]
theorem stateC_ok {zs : List Str} {m : Nat} {most : Int} {c : Str → Nat → Int × Int} (h : CellB zs m most c) : ∀ {cs : List Str} {s : Int}, (∀ z ∈ cs, z ∈ zs) → 0 ≤ s → s < m → 0 ≤ stateC c s cs ∧ stateC c s cs < m
  | [], s, _, s0, s1 => ⟨s0, s1⟩
  | z :: cs, s, hz, s0, s1 => by
    have := (h z (hz z List.mem_cons_self) s.toNat (by omega)).2
    exact stateC_ok (cs := cs) (s := (c z s.toNat).2) h (fun y hy => hz y (List.mem_cons_of_mem _ hy)) this.1 this.2
theorem walk_same {rs : List (Str × PyData)} {zs : List Str} {m : Nat} {most : Int} {c : Str → Nat → Int × Int} (h : CellB zs m most c) (e : ∀ z ∈ zs, ∀ s : Nat, s < m → cellOf rs z s = c z s) : ∀ {cs : List Str} {s : Int}, (∀ z ∈ cs, z ∈ zs) → 0 ≤ s → s < m → walkR rs s cs = walkC c s cs
  | [], s, _, _, _ => rfl
  | z :: cs, s, hz, s0, s1 => by
    have z0 := hz z List.mem_cons_self
    have e1 := e z z0 s.toNat (by omega)
    rw [Int.toNat_of_nonneg s0] at e1
    have b := (h z z0 s.toNat (by omega)).2
    show (cellOf rs z s).1 :: walkR rs (cellOf rs z s).2 cs = (c z s.toNat).1 :: walkC c (c z s.toNat).2 cs
    rw [e1, walk_same (cs := cs) h e (fun y hy => hz y (List.mem_cons_of_mem _ hy)) b.1 b.2]
theorem pick_of {zs : List Str} {i : Int} (h0 : 0 ≤ i) (h1 : i < (zs.length : Nat)) : ∃ z, z ∈ zs ∧ atI (zs.map V.str) i = some (.str z) := by
  have hi : i.toNat < zs.length := by omega
  refine ⟨zs[i.toNat], List.getElem_mem _, atI_of h0 ?_⟩
  rw [List.getElem?_map, List.getElem?_eq_getElem hi]; rfl
def rowsR (zs : List Str) (m : Nat) (c : Str → Nat → Int × Int) : List (Str × PyData) := zs.map fun z => (z, rowD2 m (c z))
theorem names_rowsR {zs : List Str} {m : Nat} {c : Str → Nat → Int × Int} : namesOf (rowsR zs m c) = zs := by
  unfold namesOf rowsR
  rw [List.map_map]
  exact (List.map_congr_left fun z _ => rfl).trans (List.map_id zs)
theorem name8 {x : Str} (hx : nameS x = true) : x.length ≤ 1000 := by
  have h8 := hx
  unfold nameS at h8
  rw [Bool.and_eq_true, Bool.and_eq_true, decide_eq_true_eq, decide_eq_true_eq] at h8
  omega
theorem RwAt.rows {H : Hp} {d : Addr} {zs : List Str} {m : Nat} {c : Str → Nat → Int × Int} (h : RwAt H d zs m c) (hb : m ≤ 1000) (nm : ∀ z ∈ zs, nameS z = true) : ∃ kvs, H d = some (.dK kvs) ∧ RowsD H kvs (rowsR zs m c) ∧ kvs.map (·.1) = zs.map (fun z => (Sum.inr z : Key)) := by
  obtain ⟨kvs, hd, hl, hv⟩ := h
  refine ⟨kvs, hd, ⟨by unfold rowsR; rw [hl, List.length_map], fun i k v e => ?_⟩, ?_⟩
  · have hi : i < zs.length := by rw [← hl]; exact (List.getElem?_eq_some_iff.mp e).1
    obtain ⟨l, xs, e2, hl2, hc⟩ := hv i zs[i] (List.getElem?_eq_getElem hi)
    rw [e] at e2
    cases e2
    exact ⟨zs[i], rowD2 m (c zs[i]), rfl, by unfold rowsR; rw [List.getElem?_map, List.getElem?_eq_getElem hi]; rfl, Dq.lst hl2 hc.dq, sz_row, fun ds e => by cases e; simpa using hb, name8 (nm _ (List.getElem_mem _))⟩
  · exact RwAt.keys (P := fun _ _ _ => True) hl fun i z e => by
      obtain ⟨l, xs, e2, _⟩ := hv i z e
      exact ⟨_, e2, True.intro⟩
theorem cellRow {A : List (Str × PyData)} {k : Nat} {f : Nat → Int × Int} {z : Str} (h : A.find? (fun p => decide (p.1 = z)) = some (z, rowD2 k f)) {i : Nat} (hi : i < k) : cellOf A z (i : Nat) = f i := by
  unfold cellOf rowOf
  rw [h]
  show ((((List.range k).map fun i => cellD (f i)).map pairI).getD (Int.toNat (i : Nat)) (0, 0)) = f i
  rw [Int.toNat_natCast, List.map_map, List.getD_eq_getElem?_getD, List.getElem?_map, List.getElem?_range hi]
  rfl
theorem find_rowsR {zs : List Str} {m : Nat} {c : Str → Nat → Int × Int} : ∀ {z : Str}, z ∈ zs → (rowsR zs m c).find? (fun p => decide (p.1 = z)) = some (z, rowD2 m (c z)) := by
  induction zs with
  | nil => intro z h; cases h
  | cons y r ih =>
    intro z h
    show ((y, rowD2 m (c y)) :: rowsR r m c).find? _ = _
    by_cases e : y = z
    · rw [List.find?_cons_of_pos (by exact decide_eq_true e), e]
    · rw [List.find?_cons_of_neg (by simpa using e)]
      rcases List.mem_cons.mp h with h | h
      · exact absurd h.symm e
      · exact ih h
theorem good_rowsR {zs : List Str} {m : Nat} {c : Str → Nat → Int × Int} (hb : CellB zs m 10 c) (zne : zs ≠ []) (z6 : zs.length ≤ 6) (nm : ∀ z ∈ zs, nameS z = true) (m1 : 1 ≤ m) (m100 : m ≤ 100) : rowsBad (rowsR zs m c) = none ∧ lenD ((rowsR zs m c).headD ("", .none)).2 = m := by
  have ln : lenD ((rowsR zs m c).headD ("", .none)).2 = m := by
    cases zs with
    | nil => exact absurd rfl zne
    | cons z r => simp [rowsR, rowD2, lenD]
  refine ⟨rowsBad_of (M := m) (by unfold rowsR; simpa using zne) (by unfold rowsR; simpa using z6) ln.symm fun q hq => ?_, ln⟩
  unfold rowsR at hq
  obtain ⟨z, hz, rfl⟩ := List.mem_map.mp hq
  refine good_side (nm z hz) m1 m100 fun i hi => ?_
  obtain ⟨⟨a, b⟩, c1, d1⟩ := hb z hz i hi
  exact ⟨a, b, c1, d1⟩
theorem mk_tab {TC BT t dt d : Addr} {H2 : Hp} {zs : List Str} {m : Nat} {c : Str → Nat → Int × Int} {st : Int} {Q : VK} {E : XK} (hR : RwAt H2 d zs m c) (hb : CellB zs m 10 c) (nd : zs.Nodup) (zne : zs ≠ []) (z6 : zs.length ≤ 6) (nm : ∀ z ∈ zs, nameS z = true) (m1 : 1 ≤ m) (m100 : m ≤ 100) (s0 : 0 ≤ st) (s1 : st < m)
    (nt : H2 t = none) (ndt : H2 dt = none) (ne : t ≠ dt) (q : ∀ H3, TabIs TC H3 t zs m st c → Kp [] H2 H3 → Q .non H3) : spTI TC BT [.ref t, .ref d, .int st] (upd (upd H2 dt (.own t)) t (.ins TC dt [])) Q E := by
  have k3 : Kp [] H2 (upd (upd H2 dt (.own t)) t (.ins TC dt [])) := (Kp.new ndt).trans (Kp.new (by rw [upd_ne ne]; exact nt))
  obtain ⟨kvs, hd, hrs, hk⟩ := hR.rows (by omega) nm
  obtain ⟨rb, ln⟩ := good_rowsR hb zne z6 nm m1 m100
  have ndk : (kvs.map (·.1)).Nodup := by
    rw [hk]
    exact List.pairwise_map.mpr (nd.imp fun h e => h (by cases e; rfl))
  have kl : kvs.length ≤ 1000 := by
    have := congrArg List.length hk
    rw [List.length_map, List.length_map] at this
    omega
  refine ⟨t, dt, d, .int st, .int st, kvs, _, rfl, upd_same, k3 _ _ not0 hd, hrs.kp k3, ndk, kl, .int _, fun _ i ei i0 i1 H3 hT3 k4 => ?_, fun n hbad => ?_⟩
  · cases ei
    rw [ln] at hT3
    refine q H3 ⟨_, hT3, names_rowsR, fun z hz s hs => cellRow (find_rowsR hz) hs⟩ fun a o _ ea => k4 a o (not1 fun w => by rw [w, nt] at ea; cases ea) (k3 _ _ not0 ea)
  · exfalso
    rcases hbad with h | ⟨_, h, _⟩
    · rw [rb] at h; cases h
    · rw [ln] at h
      have : (decide (0 ≤ st) && decide (st < (m : Nat))) = false := h
      rw [decide_eq_true s0, decide_eq_true s1] at this
      cases this
end My

set_option Elab.async false
set_option linter.all false
set_option maxRecDepth 100000
set_option maxHeartbeats 4000000
namespace My
open PySem L2 NdefX
abbrev s_law_mixed : Stmt := top 31
theorem sc_law_mixed : FnScope ["_law_cell", "_law_k", "_law_one", "_law_two"] ["_law_cell", "_law_k"] (defScope s_law_mixed) := ⟨rfl, rfl, rfl, by decide +kernel, rfl, by decide +kernel, by decide +kernel⟩
abbrev s_law_draws : Stmt := top 32
theorem sc_law_draws : FnScope ["_law_script", "_law_at", "_law_bounds", "_law_cell", "_law_rest", "_law_great", "_law_found", "_law_bound"] ["_law_script", "_law_at", "_law_bounds"] (defScope s_law_draws) := ⟨rfl, rfl, rfl, by decide +kernel, rfl, by decide +kernel, by decide +kernel⟩
structure BtG (mg : Str → Option Value) : Prop where
  b_int : mg "int" = none
  b_len : mg "len" = none
  b_abs : mg "abs" = none
section
variable {P : Program} {w : World} {K : PySem.W.Frag} {mg : Str → Option Value} {base : Heap}
def spMixed : Sp := fun vs H Q _ => ∃ (c k : Int), vs = [.int c, .int k] ∧ 0 ≤ k ∧ k ≤ 2000000 ∧ ∀ r : Int, 0 ≤ r → r < 2147483587 → Q (.int r) H
theorem ok_law_mixed {f : Addr} {fd : FuncData} (D : Df K mg "_law_mixed" s_law_mixed ["_law_cell", "_law_k"] f fd) (T : BtG mg) : FnOk P w K mg base CX0 1 f fd ["_law_cell", "_law_k"] spMixed := by
  refine D.F.ok sc_law_mixed (fun vs H Q E h => ?_) (fun cdv A outer s H vs Q E hr h => ?_)
  · obtain ⟨c, k, rfl, _⟩ := h
    rfl
  · obtain ⟨c, k, rfl, k0, k1, q⟩ := h
    refine ⟨_, (pss_cons (ps_set (i := 2) sc_law_mixed.nd rfl (Or.inl rfl) (pe_op op_mod (pe_callTy (T := "int") call_int1 (by rfl) T.b_int (by decide +kernel) (pa_cons (pe_op op_add (pe_op op_add (pe_op op_mul (pv 0) pe_int) (pe_op op_mul (pv 1) pe_int)) pe_int) pa_nil)) pe_int))
      (pss_cons (ps_set (i := 3) sc_law_mixed.nd rfl (Or.inl rfl) (pe_op op_mod (pe_callTy (T := "int") call_int1 (by rfl) T.b_int (by decide +kernel) (pa_cons (pe_op op_add (pe_op op_add (pe_op op_mul (pv 2) (pv 2)) (pe_op op_mul (pv 1) pe_int)) pe_int) pa_nil)) pe_int))
      (pss_one (ps_ret (pe_op op_mod (pe_callTy (T := "int") call_int1 (by rfl) T.b_int (by decide +kernel) (pa_cons (pe_op op_add (pe_op op_mul (pv 3) (pv 3)) (pv 2)) pa_nil)) pe_int))))), ?_⟩
    try simp (maxSteps := 1000000) only [tSeq, tIfS, tTest, tOp, tUn, tCB, tCons, tNil, tVar, tC, rI0, rI, rU, rEq, rNe, tRet, tRetN, tAsg, gName, gSub, tBM, tBM0, tNext, tB, tNot, tAnd, tOr, tIf, tCall, tDrop, tBreak, tCont, L2.start, tDGet, sDPut, tTup, tLst, tDNewK, tRevL, rCat, rAppend, rPop, rSetL, tAndV, tOrV, tNotV, tSl, tPart, tNoPart, tM1, gTup, gCons, gNil, cxK, cxnK, List.map_cons, List.map_nil, List.length_cons, List.length_nil, List.replicate, List.cons_append, List.nil_append, List.append_nil, List.set_cons_zero, List.set_cons_succ, List.getElem?_cons_zero, List.getElem?_cons_succ, Option.some.injEq, V.ref.injEq, V.int.injEq, V.str.injEq, V.bl.injEq, V.ty.injEq, exists_eq_left', exists_eq_left, exists_and_left, List.cons.injEq, and_true, true_and, sc_ii, sc_ss, sc_bb, sc_ni, sc_in, sc_is, sc_si, sc_nn, decide_true, decide_false, reduceCtorEq, Bool.false_eq_true, if_true, if_false, ite_true, ite_false, exists_const, eq_self, false_and, and_false, or_false, false_or, exists_false, Evl.rLenS, rSum, wipe, tYes, exists_eq, exists_eq', rIxL, rIxT, rIxS, exists_and_right, gt_iff_lt, not_true_eq_false, not_false_eq_true, Bool.not_true, Bool.not_false, decide_eq_true_eq, Nat.reduceSub, Nat.reduceAdd, List.append_assoc, tChain, tDIn, tDNotIn, sDDel, tAug, ipI]
    have m1 := Int.emod_nonneg (c * 48271 + k * 69621 + 17) (show (2147483647 : Int) ≠ 0 by decide)
    have m2 := Int.emod_lt_of_pos (c * 48271 + k * 69621 + 17) (show (0 : Int) < 2147483647 by decide)
    generalize (c * 48271 + k * 69621 + 17) % 2147483647 = x at m1 m2 ⊢
    have m3 := Int.emod_nonneg (x * x + k * 16807 + 29) (show (2147483629 : Int) ≠ 0 by decide)
    have m4 := Int.emod_lt_of_pos (x * x + k * 16807 + 29) (show (0 : Int) < 2147483629 by decide)
    generalize (x * x + k * 16807 + 29) % 2147483629 = y at m3 m4 ⊢
    exact ⟨.inr ⟨by decide, by decide⟩, .inr ⟨by decide, by decide⟩, by decide, .inl ⟨by omega, by omega⟩, .inr ⟨by decide, by decide⟩, by decide, .inl ⟨by omega, by omega⟩, by decide, q _ (Int.emod_nonneg _ (by decide)) (Int.emod_lt_of_pos _ (by decide))⟩
/-- the script -/
def Scr (K : PySem.W.Frag) (H : Hp) (a : Addr) (ns : List Int) : Prop := SqL K H a (ns.map V.int) ∧ ns.length ≤ 63
def DrawOk (bs ds : List Int) : Prop := ds.length = bs.length ∧ ∀ (i : Nat) (d b : Int), ds[i]? = some d → bs[i]? = some b → 0 ≤ d ∧ d < b
def spDraws (K : PySem.W.Frag) : Sp := fun vs H Q _ => ∃ (a bl : Addr) (at_ : Nat) (ns bs : List Int), vs = [.ref a, .int (at_ : Nat), .ref bl] ∧ Scr K H a ns ∧ at_ ≤ 1000 ∧ H bl = some (.lst (bs.map V.int)) ∧ bs.length ≤ 10000 ∧ (∀ b ∈ bs, 1 ≤ b ∧ b ≤ 1000000000) ∧
  ∀ (r : Addr) (ds : List Int) (H' : Hp), H r = none → H' r = some (.lst (ds.map V.int)) → DrawOk bs ds → Kp [] H H' → Q (.ref r) H'
theorem ok_law_draws {f : Addr} {fd : FuncData} (D : Df K mg "_law_draws" s_law_draws ["_law_script", "_law_at", "_law_bounds"] f fd) (T : BtG mg) {fg : Addr} {fdg : FuncData} (D_law_mixed : Df K mg "_law_mixed" s_law_mixed ["_law_cell", "_law_k"] fg fdg) (G_law_mixed : FnOk P w K mg base CX0 1 fg fdg ["_law_cell", "_law_k"] spMixed) : FnOk P w K mg base CX0 2 f fd ["_law_script", "_law_at", "_law_bounds"] (spDraws K) := by
  refine D.F.ok sc_law_draws (fun vs H Q E h => ?_) (fun cdv A outer s H vs Q E hr h => ?_)
  · obtain ⟨a, bl, at_, ns, bs, rfl, _⟩ := h
    rfl
  · obtain ⟨a, bl, at_, ns, bs, rfl, ⟨hS, hl⟩, a1, hb, bz, b1, q⟩ := h
    refine ⟨_, (pss_cons (ps_if (pt_cmpR op_eq (pe_callB (id := "len") (r := Evl.rLenS K) call_len_seq (by rfl) T.b_len PySem.boot_len (pa_cons (pv 0) pa_nil)) pe_int (nomark _)) (pss_one (ps_ret (pe_op op_rep (pe_lst (pa_cons pe_int pa_nil)) (pe_callB (id := "len") (r := Evl.rLenS K) call_len_seq (by rfl) T.b_len PySem.boot_len (pa_cons (pv 2) pa_nil))))) pss_nil)
      (pss_cons (ps_set (i := 3) sc_law_draws.nd rfl (Or.inl rfl) (pe_callTy (T := "int") call_int1 (by rfl) T.b_int (by decide +kernel) (pa_cons (pe_ix (r := rIxL K) ix_list (pv 0) (pe_op op_mod (pe_callTy (T := "int") call_int1 (by rfl) T.b_int (by decide +kernel) (pa_cons (pv 1) pa_nil)) (pe_callB (id := "len") (r := Evl.rLenS K) call_len_seq (by rfl) T.b_len PySem.boot_len (pa_cons (pv 0) pa_nil))) (fun _ _ => rfl)) pa_nil)))
      (pss_cons (ps_if (pt_cmpR op_ge (pv 1) (pe_callB (id := "len") (r := Evl.rLenS K) call_len_seq (by rfl) T.b_len PySem.boot_len (pa_cons (pv 0) pa_nil)) (nomark _)) (pss_one (ps_set (i := 3) sc_law_draws.nd rfl (Or.inl rfl) (pe_op op_mod (pe_callTy (T := "int") call_int1 (by rfl) T.b_int (by decide +kernel) (pa_cons (pv 3) pa_nil)) pe_int))) pss_nil)
      (pss_cons (ps_set (i := 4) sc_law_draws.nd rfl (Or.inl rfl) (pe_callB (id := "abs") call_abs (by rfl) T.b_abs (by decide +kernel) (pa_cons (pv 3) pa_nil)))
      (pss_cons (ps_set (i := 5) sc_law_draws.nd rfl (Or.inl rfl) (pe_cmpR op_ge (pv 4) (pe_op op_pow pe_int pe_int) (nomark _)))
      (pss_cons (ps_set (i := 6) sc_law_draws.nd rfl (Or.inl rfl) (pe_lst pa_nil))
      (pss_cons (ps_for PassesOwn.never rfl (pi_list (pv 2)) (pg_name (i := 7) sc_law_draws.nd rfl (Or.inl rfl)) (pss_one (ps_if (pt_val (pv 5)) (pss_cons (ps_expr (pe_bm PySem.F.plainAttrs_list PySem.F.slot_list_append PySem.F.type_list_append mt_append (pv 6) (pa_cons (pe_op op_mod (pe_callTy (T := "int") call_int1 (by rfl) T.b_int (by decide +kernel) (pa_cons (pv 4) pa_nil)) (pv 7)) pa_nil)))
      (pss_one (ps_set (i := 4) sc_law_draws.nd rfl (Or.inl rfl) (pe_op op_fdiv (pv 4) (pv 7))))) (pss_one (ps_expr (pe_bm PySem.F.plainAttrs_list PySem.F.slot_list_append PySem.F.type_list_append mt_append (pv 6) (pa_cons (pe_op op_mod (pe_callTy (T := "int") call_int1 (by rfl) T.b_int (by decide +kernel) (pa_cons (pe_call G_law_mixed (hr.mono (by decide)) rfl D_law_mixed.g D_law_mixed.F.kp D_law_mixed.b .nil pass0 (pa_cons (pv 3) (pa_cons (pe_op op_add (pe_op op_mul pe_int (pv 1)) (pe_callB (id := "len") (r := Evl.rLenS K) call_len_seq (by rfl) T.b_len PySem.boot_len (pa_cons (pv 6) pa_nil))) pa_nil))) pa_nil)) (pv 7)) pa_nil)))))))
      (pss_one (ps_ret (pv 6)))))))))), ?_⟩
    try simp (maxSteps := 1000000) only [tSeq, tIfS, tTest, tOp, tUn, tCB, tCons, tNil, tVar, tC, rI0, rI, rU, rEq, rNe, tRet, tRetN, tAsg, gName, gSub, tBM, tBM0, tNext, tB, tNot, tAnd, tOr, tIf, tCall, tDrop, tBreak, tCont, L2.start, tDGet, sDPut, tTup, tLst, tDNewK, tRevL, rCat, rAppend, rPop, rSetL, tAndV, tOrV, tNotV, tSl, tPart, tNoPart, tM1, gTup, gCons, gNil, cxK, cxnK, List.map_cons, List.map_nil, List.length_cons, List.length_nil, List.replicate, List.cons_append, List.nil_append, List.append_nil, List.set_cons_zero, List.set_cons_succ, List.getElem?_cons_zero, List.getElem?_cons_succ, Option.some.injEq, V.ref.injEq, V.int.injEq, V.str.injEq, V.bl.injEq, V.ty.injEq, exists_eq_left', exists_eq_left, exists_and_left, List.cons.injEq, and_true, true_and, sc_ii, sc_ss, sc_bb, sc_ni, sc_in, sc_is, sc_si, sc_nn, decide_true, decide_false, reduceCtorEq, Bool.false_eq_true, if_true, if_false, ite_true, ite_false, exists_const, eq_self, false_and, and_false, or_false, false_or, exists_false, Evl.rLenS, rSum, wipe, tYes, exists_eq, exists_eq', rIxL, rIxT, rIxS, exists_and_right, gt_iff_lt, not_true_eq_false, not_false_eq_true, Bool.not_true, Bool.not_false, decide_eq_true_eq, Nat.reduceSub, Nat.reduceAdd, List.append_assoc, tChain, tDIn, tDNotIn, sDDel, tAug, ipI]
    refine ⟨_, .inl hS, ?_⟩
    rw [List.length_map]
    have zero_ok : DrawOk bs (List.replicate bs.length 0) := ⟨by simp, fun i d b hd hb' => by
      rw [List.getElem?_replicate] at hd
      split at hd
      · cases hd
        exact ⟨by decide, by have := (b1 b (List.mem_of_getElem? hb')).1; omega⟩
      · cases hd⟩
    refine ite2 (fun h1 => ?_) (fun h1 => ?_)
    · refine ⟨by decide, fun p np => ?_⟩
      have kp : Kp [] H (upd H p (.lst [.int 0])) := Kp.new np
      try simp (maxSteps := 1000000) only [tSeq, tIfS, tTest, tOp, tUn, tCB, tCons, tNil, tVar, tC, rI0, rI, rU, rEq, rNe, tRet, tRetN, tAsg, gName, gSub, tBM, tBM0, tNext, tB, tNot, tAnd, tOr, tIf, tCall, tDrop, tBreak, tCont, L2.start, tDGet, sDPut, tTup, tLst, tDNewK, tRevL, rCat, rAppend, rPop, rSetL, tAndV, tOrV, tNotV, tSl, tPart, tNoPart, tM1, gTup, gCons, gNil, cxK, cxnK, List.map_cons, List.map_nil, List.length_cons, List.length_nil, List.replicate, List.cons_append, List.nil_append, List.append_nil, List.set_cons_zero, List.set_cons_succ, List.getElem?_cons_zero, List.getElem?_cons_succ, Option.some.injEq, V.ref.injEq, V.int.injEq, V.str.injEq, V.bl.injEq, V.ty.injEq, exists_eq_left', exists_eq_left, exists_and_left, List.cons.injEq, and_true, true_and, sc_ii, sc_ss, sc_bb, sc_ni, sc_in, sc_is, sc_si, sc_nn, decide_true, decide_false, reduceCtorEq, Bool.false_eq_true, if_true, if_false, ite_true, ite_false, exists_const, eq_self, false_and, and_false, or_false, false_or, exists_false, Evl.rLenS, rSum, wipe, tYes, exists_eq, exists_eq', rIxL, rIxT, rIxS, exists_and_right, gt_iff_lt, not_true_eq_false, not_false_eq_true, Bool.not_true, Bool.not_false, decide_eq_true_eq, Nat.reduceSub, Nat.reduceAdd, List.append_assoc, tChain, tDIn, tDNotIn, sDDel, tAug, ipI, rRep]
      refine ⟨_, .inl (sq_l (kp _ _ not0 hb)), [.int 0], upd_same, by rw [List.length_map]; omega, by rw [List.length_map]; omega, ?_, fun r nr => ?_⟩
      · rw [List.length_map, List.length_singleton, Int.toNat_natCast]
        have := (smallL (n := bs.length) (by omega))
        omega
      · have nr' := kp.free0 nr
        refine q r (List.replicate bs.length 0) _ nr' ?_ zero_ok (kp.trans (Kp.new nr))
        have fl : ∀ n : Nat, (List.replicate n [V.int 0]).flatten = (List.replicate n (0 : Int)).map V.int := by
          intro n
          induction n with
          | zero => rfl
          | succ n ih => rw [List.replicate_succ, List.replicate_succ, List.flatten_cons, ih]; rfl
        rw [upd_same, List.length_map, Int.toNat_natCast, fl]
    · have tail : ∀ (p : Addr), H p = none → ∀ (cell rest : Int) (gr : Bool), 0 ≤ rest → (tFor (iList K (tVar 2)) (gName 7)
          (tIfS (tB (tVar 5)) (tSeq (tDrop (tBM K "list" rAppend (tVar 6) (tCons (tOp (rI (fun _ j => 0 < j) fun i j => V.int (i % j)) (tCB (fun xs H Q => (∃ i, xs = [V.int i] ∧ Q (V.int i) H) ∨ ∃ k, xs = [V.bl k] ∧ Q (V.int (if k = true then 1 else 0)) H) (tCons (tVar 4) tNil)) (tVar 7)) tNil))) (tAsg (tOp (rI CDiv fun i j => V.int (i / j)) (tVar 4) (tVar 7)) (gName 4)))
            (tDrop (tBM K "list" rAppend (tVar 6) (tCons (tOp (rI (fun _ j => 0 < j) fun i j => V.int (i % j)) (tCB (fun xs H Q => (∃ i, xs = [V.int i] ∧ Q (V.int i) H) ∨ ∃ k, xs = [V.bl k] ∧ Q (V.int (if k = true then 1 else 0)) H) (tCons (tCall spMixed [] E0 (tCons (tVar 3) (tCons (tOp (rI0 fun i j => V.int (i + j)) (tOp (rI CMul fun i j => V.int (i * j)) (tC (V.int 1009)) (tVar 1)) (tCB (Evl.rLenS K) (tCons (tVar 6) tNil))) tNil))) tNil)) (tVar 7)) tNil)))))
          { nx := tRet (tVar 6) { nx := fun x H' => Q V.non H', rt := Q }, rt := Q } [some (V.ref a), some (V.int (at_ : Nat)), some (V.ref bl), some (V.int cell), some (V.int rest), some (V.bl gr), some (V.ref p), none] (upd H p (HO.lst [])) := by
        intro p np cell rest0 gr r2
        have kp : Kp [] H (upd H p (.lst [])) := Kp.new np
        refine ⟨.ref bl, rfl, bl, rfl, ⟨_, sq_l (kp _ _ not0 hb)⟩, for_list (K := K) (a := bl) (xs := bs.map V.int) (fun i σ H' => ∃ (rest : Int) (c7 : Option V) (ds : List Int), σ = [some (.ref a), some (.int (at_ : Nat)), some (.ref bl), some (.int cell), some (.int rest), some (.bl gr), some (.ref p), c7] ∧ 0 ≤ rest ∧ H' p = some (.lst (ds.map V.int)) ∧ DrawOk (bs.take i) ds ∧ Kp [] H H') ⟨rest0, none, [], rfl, r2, upd_same, ⟨rfl, fun i d b e => by cases e⟩, kp⟩ (fun i σ H' _ h => by obtain ⟨_, _, _, _, _, _, _, k⟩ := h; exact k.ls not0 (sq_l hb)) ?_ ?_⟩
        · rintro i v σ H1 hx ⟨rest, c7, ds, rfl, s0, hp, hd, k1⟩
          obtain ⟨b, eb, rfl⟩ : ∃ b, bs[i]? = some b ∧ V.int b = v := by
            rw [List.getElem?_map] at hx
            cases e : bs[i]? with
            | none => rw [e] at hx; cases hx
            | some b => rw [e] at hx; exact ⟨b, rfl, Option.some.inj hx⟩
          have bb := b1 b (List.mem_of_getElem? eb)
          have il := (List.getElem?_eq_some_iff.mp eb).1
          have dl : ds.length = i := by rw [hd.1, List.length_take]; omega
          have more : ∀ d : Int, 0 ≤ d → d < b → DrawOk (bs.take (i + 1)) (ds ++ [d]) := fun d d0 d1 => ⟨by rw [take_snoc eb, List.length_append, List.length_append, hd.1]; rfl, fun j d' b' hj hb' => by
            rw [take_snoc eb] at hb'
            have lt : (bs.take i).length = i := by rw [List.length_take]; omega
            rcases Nat.lt_trichotomy j i with w | w | w
            · rw [List.getElem?_append_left (by omega)] at hj hb'
              exact hd.2 j d' b' hj hb'
            · subst w
              rw [List.getElem?_append_right (by omega)] at hj hb'
              rw [dl, Nat.sub_self] at hj
              rw [lt, Nat.sub_self] at hb'
              cases hj
              cases hb'
              exact ⟨d0, d1⟩
            · rw [List.getElem?_append_right (by omega), dl, List.getElem?_eq_none (by simp; omega)] at hj
              cases hj⟩
          have sl : (ds.map V.int).length < sizeLine := smallL (by rw [List.length_map]; omega)
          cases gr with
          | true =>
            try simp (maxSteps := 1000000) only [tSeq, tIfS, tTest, tOp, tUn, tCB, tCons, tNil, tVar, tC, rI0, rI, rU, rEq, rNe, tRet, tRetN, tAsg, gName, gSub, tBM, tBM0, tNext, tB, tNot, tAnd, tOr, tIf, tCall, tDrop, tBreak, tCont, L2.start, tDGet, sDPut, tTup, tLst, tDNewK, tRevL, rCat, rAppend, rPop, rSetL, tAndV, tOrV, tNotV, tSl, tPart, tNoPart, tM1, gTup, gCons, gNil, cxK, cxnK, List.map_cons, List.map_nil, List.length_cons, List.length_nil, List.replicate, List.cons_append, List.nil_append, List.append_nil, List.set_cons_zero, List.set_cons_succ, List.getElem?_cons_zero, List.getElem?_cons_succ, Option.some.injEq, V.ref.injEq, V.int.injEq, V.str.injEq, V.bl.injEq, V.ty.injEq, exists_eq_left', exists_eq_left, exists_and_left, List.cons.injEq, and_true, true_and, sc_ii, sc_ss, sc_bb, sc_ni, sc_in, sc_is, sc_si, sc_nn, decide_true, decide_false, reduceCtorEq, Bool.false_eq_true, if_true, if_false, ite_true, ite_false, exists_const, eq_self, false_and, and_false, or_false, false_or, exists_false, Evl.rLenS, rSum, wipe, tYes, exists_eq, exists_eq', rIxL, rIxT, rIxS, exists_and_right, gt_iff_lt, not_true_eq_false, not_false_eq_true, Bool.not_true, Bool.not_false, decide_eq_true_eq, Nat.reduceSub, Nat.reduceAdd, List.append_assoc, tChain, tDIn, tDNotIn, sDDel, tAug, ipI]
            exact ⟨.inl ⟨rfl, _, sq_l hp⟩, by omega, _, hp, sl, ⟨by omega, by omega⟩, Int.ediv_nonneg s0 (by omega), ds ++ [rest % b], by rw [upd_same, List.map_append]; rfl, more _ (Int.emod_nonneg _ (by omega)) (Int.emod_lt_of_pos _ (by omega)), k1.wr np⟩
          | false =>
            try simp (maxSteps := 1000000) only [tSeq, tIfS, tTest, tOp, tUn, tCB, tCons, tNil, tVar, tC, rI0, rI, rU, rEq, rNe, tRet, tRetN, tAsg, gName, gSub, tBM, tBM0, tNext, tB, tNot, tAnd, tOr, tIf, tCall, tDrop, tBreak, tCont, L2.start, tDGet, sDPut, tTup, tLst, tDNewK, tRevL, rCat, rAppend, rPop, rSetL, tAndV, tOrV, tNotV, tSl, tPart, tNoPart, tM1, gTup, gCons, gNil, cxK, cxnK, List.map_cons, List.map_nil, List.length_cons, List.length_nil, List.replicate, List.cons_append, List.nil_append, List.append_nil, List.set_cons_zero, List.set_cons_succ, List.getElem?_cons_zero, List.getElem?_cons_succ, Option.some.injEq, V.ref.injEq, V.int.injEq, V.str.injEq, V.bl.injEq, V.ty.injEq, exists_eq_left', exists_eq_left, exists_and_left, List.cons.injEq, and_true, true_and, sc_ii, sc_ss, sc_bb, sc_ni, sc_in, sc_is, sc_si, sc_nn, decide_true, decide_false, reduceCtorEq, Bool.false_eq_true, if_true, if_false, ite_true, ite_false, exists_const, eq_self, false_and, and_false, or_false, false_or, exists_false, Evl.rLenS, rSum, wipe, tYes, exists_eq, exists_eq', rIxL, rIxT, rIxS, exists_and_right, gt_iff_lt, not_true_eq_false, not_false_eq_true, Bool.not_true, Bool.not_false, decide_eq_true_eq, Nat.reduceSub, Nat.reduceAdd, List.append_assoc, tChain, tDIn, tDNotIn, sDDel, tAug, ipI]
            exact ⟨.inl ⟨rfl, _, sq_l hp⟩, .inl ⟨by decide, by decide⟩, _, .inl (sq_l hp), cell, _, rfl, by omega, by rw [List.length_map]; omega, fun r r0 r1 => .inl ⟨r, rfl, by omega, _, hp, sl, s0, ds ++ [r % b], by rw [upd_same, List.map_append]; rfl, more _ (Int.emod_nonneg _ (by omega)) (Int.emod_lt_of_pos _ (by omega)), k1.wr np⟩⟩
        · rintro σ H1 ⟨rest, c7, ds, rfl, s0, hp, hd, k1⟩
          rw [List.length_map, List.take_length] at hd
          try simp (maxSteps := 1000000) only [tSeq, tIfS, tTest, tOp, tUn, tCB, tCons, tNil, tVar, tC, rI0, rI, rU, rEq, rNe, tRet, tRetN, tAsg, gName, gSub, tBM, tBM0, tNext, tB, tNot, tAnd, tOr, tIf, tCall, tDrop, tBreak, tCont, L2.start, tDGet, sDPut, tTup, tLst, tDNewK, tRevL, rCat, rAppend, rPop, rSetL, tAndV, tOrV, tNotV, tSl, tPart, tNoPart, tM1, gTup, gCons, gNil, cxK, cxnK, List.map_cons, List.map_nil, List.length_cons, List.length_nil, List.replicate, List.cons_append, List.nil_append, List.append_nil, List.set_cons_zero, List.set_cons_succ, List.getElem?_cons_zero, List.getElem?_cons_succ, Option.some.injEq, V.ref.injEq, V.int.injEq, V.str.injEq, V.bl.injEq, V.ty.injEq, exists_eq_left', exists_eq_left, exists_and_left, List.cons.injEq, and_true, true_and, sc_ii, sc_ss, sc_bb, sc_ni, sc_in, sc_is, sc_si, sc_nn, decide_true, decide_false, reduceCtorEq, Bool.false_eq_true, if_true, if_false, ite_true, ite_false, exists_const, eq_self, false_and, and_false, or_false, false_or, exists_false, Evl.rLenS, rSum, wipe, tYes, exists_eq, exists_eq', rIxL, rIxT, rIxS, exists_and_right, gt_iff_lt, not_true_eq_false, not_false_eq_true, Bool.not_true, Bool.not_false, decide_eq_true_eq, Nat.reduceSub, Nat.reduceAdd, List.append_assoc, tChain, tDIn, tDNotIn, sDDel, tAug, ipI]
          exact q p ds H1 np hp hd k1
      have len0 : (0 : Int) < (ns.length : Nat) := by omega
      have r0 := Int.emod_nonneg (at_ : Int) (show ((ns.length : Nat) : Int) ≠ 0 by omega)
      have r1 := Int.emod_lt_of_pos (at_ : Int) len0
      obtain ⟨v, hv, ev⟩ := atI_ex (xs := ns.map V.int) r0 (by rw [List.length_map]; exact r1)
      obtain ⟨x, _, rfl⟩ := List.mem_map.mp hv
      refine ⟨_, .inl hS, by rw [List.length_map]; exact len0, _, hS, _, by rw [List.length_map]; exact ev, .inl ⟨x, rfl, _, .inl hS, ?_⟩⟩
      have p18 : CPow 10 18 := ⟨by decide, by decide, by decide⟩
      rw [List.length_map]
      refine ite2 (fun h2 => ?_) (fun h2 => ?_)
      · refine ⟨by decide, p18, Nat.zero_le _, fun p np => ?_⟩
        have r2 : 0 ≤ (if x % 1000003 < 0 then -(x % 1000003) else x % 1000003) := by split <;> omega
        generalize (if x % 1000003 < 0 then -(x % 1000003) else x % 1000003) = rest at r2 ⊢
        generalize x % 1000003 = cell
        generalize decide (10 ^ Int.toNat 18 ≤ rest) = gr
        exact tail p np cell rest gr r2
      · refine ⟨p18, Nat.zero_le _, fun p np => ?_⟩
        have r2 : 0 ≤ (if x < 0 then -x else x) := by split <;> omega
        generalize (if x < 0 then -x else x) = rest at r2 ⊢
        generalize decide (10 ^ Int.toNat 18 ≤ rest) = gr
        exact tail p np x rest gr r2
end
end My

set_option Elab.async false
set_option linter.all false
set_option maxRecDepth 100000
set_option maxHeartbeats 4000000
namespace My
open PySem L2 NdefX ClX
abbrev s_table_of : Stmt := top 29
theorem sc_table_of : FnScope ["shape"] ["shape"] (defScope s_table_of) := ⟨rfl, rfl, rfl, by decide +kernel, rfl, by decide +kernel, by decide +kernel⟩
theorem ShRows.at {H0 H : Hp} {r : Addr} {nm : List Str} {m : Nat} (h : ShRows H0 H r nm m) : RwAt H r nm m (fun z => doP z m) := by
  obtain ⟨_, kvs, hr, hl, hv⟩ := h
  refine ⟨kvs, hr, hl, fun i z e => ?_⟩
  obtain ⟨v, ev, l, xs, rfl, _, hl, ht⟩ := hv i z e
  exact ⟨l, xs, ev, hl, ht⟩
/-- the names of the k-th shape's rows -/
def nmS (k : Nat) : List Str := ([[], ["look"], ["up"], ["top"], ["clear"], ["up", "look"], ["clear", "top"], ["clear", "up", "look"]] : List (List Str)).getD k []
def spSI (K : PySem.W.Frag) (BN : Addr) : Sp := fun vs H Q E => ∃ (o C dx : Addr) (n : Int), vs = [.ref o, .int n] ∧ H o = some (.ins C dx []) ∧ ClsS K C ∧ (1 ≤ n → n ≤ 9 → ∀ H', Kp [] H H' → Q .non (upd H' o (.ins C dx [("size", .int n)]))) ∧
  (¬ (1 ≤ n ∧ n ≤ 9) → ∀ (e : Addr) (H' : Hp), H e = none → H' e = some (.xd [("number", .int n)]) → Kp [] H H' → E (.ref BN) (some e) H')
def spRow1 (C : Addr) (nm : List Str) : Sp := fun vs H Q _ => ∃ (o dx : Addr) (m : Nat), vs = [.ref o] ∧ H o = some (.ins C dx [("size", .int (m : Nat))]) ∧ 1 ≤ m ∧ m ≤ 9 ∧ ∀ r H', H r = none → ShRows H H' r nm m → Kp [] H H' → Q (.ref r) H'
def spTabOf (c : Nat → Addr) (TC : Addr) : Sp := fun vs H Q _ => ∃ (o i dx m : Nat), vs = [.ref o] ∧ i < 8 ∧ H o = some (.ins (c i) dx [("size", .int (m : Nat))]) ∧ 1 ≤ m ∧ m ≤ 9 ∧ nmS i ≠ [] ∧ ∀ (t : Addr) (H' : Hp), TabIs TC H' t (nmS i) m 0 (fun z => doP z m) → Kp [] H H' → Q (.ref t) H'
theorem noneB {H H1 : Hp} {e : Addr} (k : Kp [] H H1) (n : H1 e = none) : H e = none := by
  cases h : H e with
  | none => rfl
  | some x => rw [k _ _ not0 h] at n; cases n
theorem nmS_nd : ∀ i, i < 8 → (nmS i).Nodup ∧ (∀ z ∈ nmS i, nameS z = true) ∧ (nmS i).length ≤ 3 := by decide +kernel
theorem cellB_do {zs : List Str} {m : Nat} (m1 : 1 ≤ m) (m9 : m ≤ 9) : CellB zs m 10 (fun z => doP z m) := fun z _ s hs => by
  show (0 ≤ (doP z m s).1 ∧ (doP z m s).1 < 10) ∧ 0 ≤ (doP z m s).2 ∧ (doP z m s).2 < m
  have h2 : (s + 1) % m < m := Nat.mod_lt _ m1
  unfold doP
  split
  · exact ⟨⟨by omega, by omega⟩, by omega, by omega⟩
  · split
    · exact ⟨⟨by show (0 : Int) ≤ s; omega, by show (s : Int) < 10; omega⟩, by show (0 : Int) ≤ ((s + 1) % m : Nat); omega, by show (((s + 1) % m : Nat) : Int) < m; omega⟩
    · split
      · refine ⟨?_, by show (0 : Int) ≤ (m : Int) - 1; omega, by show (m : Int) - 1 < m; omega⟩
        show (0 : Int) ≤ (if s + 1 = m then 1 else 0) ∧ (if s + 1 = m then (1 : Int) else 0) < 10
        split <;> exact ⟨by decide, by decide⟩
      · exact ⟨⟨by decide, by decide⟩, by show (0 : Int) ≤ 0; decide, by show (0 : Int) < m; omega⟩
/-- what stands of the eight classes -/
structure ShF (P : Program) (w : World) (K : PySem.W.Frag) (mg : Str → Option Value) (base : Heap) (c : Nat → Addr) : Prop where
  cl : ∀ i, i < 8 → ClsS K (c i)
  rows : ∀ i, i < 8 → ∃ (f : Addr) (fd : FuncData), Meth K (c i) "rows" f ∧ Binds K fd ["self"] [] ∧ FnOk P w K mg base CX0 5 f fd ["self"] (spRow1 (c i) (nmS i))
def tShRows (c : Nat → Addr) (E : XK) (ta : TE) : TE := fun σ H Q => ∃ i, i < 8 ∧ tMeth (c i) "rows" (spRow1 (c i) (nmS i)) [] E ta tNil σ H Q
theorem pe_rows {X : Cx} {c : Nat → Addr} (S : ShF X.prog X.w X.K X.mg X.base c) (hr : Room 5 X.A) {o : Expr} {apos pos : Pos} {ta : TE} {pl : Sem Bool} (he : PE X o ta)
    (ht : eval (.Call (.Attribute o "rows" apos) [] [] pos) X.env = (do
      let ov ← eval o X.env
      standAt apos.atName
      let (f, first) ← holding [ov] (getMethod ov "rows" pl)
      callWith pos f first (backTo pos (starEach [] X.env)) (backToKw pos (keywordEach [] X.env))) := by rfl) : PE X (.Call (.Attribute o "rows" apos) [] [] pos) (tShRows c E0 ta) := by
  refine ⟨fun pins s σ H Q I h => ?_⟩
  obtain ⟨i, hi, h⟩ := h
  obtain ⟨f, fd, M, B, G⟩ := S.rows i hi
  exact (pe_meth0 (pl := pl) he (S.cl i hi).cl M G hr B .nil pass0 ht).run pins s σ H Q I h
section
variable {P : Program} {w : World} {K : PySem.W.Frag} {mg : Str → Option Value} {base : Heap} {tL t1 t2 : Tok}
theorem ok_Shape_rows {f : Addr} {fd : FuncData} (F : Fun K "rows" "Shape.rows" s_Shape_rows f fd) : FnOk P w K mg base CX0 1 f fd ["self"] (spRw fun _ nm => nm = []) := by
  refine F.ok sc_Shape_rows (fun vs H Q E h => ?_) (fun cdv A outer s H vs Q E hr h => ?_)
  · obtain ⟨o, C, dx, m, nm, rfl, _⟩ := h
    rfl
  · obtain ⟨o, C, dx, m, nm, rfl, rfl, ho, m1, m9, q⟩ := h
    refine ⟨_, (pss_one (ps_ret pe_dnewK)), ?_⟩
    try simp (maxSteps := 1000000) only [tSeq, tIfS, tTest, tOp, tUn, tCB, tCons, tNil, tVar, tC, rI0, rI, rU, rEq, rNe, tRet, tRetN, tAsg, gName, gSub, tBM, tBM0, tNext, tB, tNot, tAnd, tOr, tIf, tCall, tDrop, tBreak, tCont, L2.start, tDGet, sDPut, tTup, tLst, tDNewK, tRevL, rCat, rAppend, rPop, rSetL, tAndV, tOrV, tNotV, tSl, tPart, tNoPart, tM1, gTup, gCons, gNil, cxK, cxnK, List.map_cons, List.map_nil, List.length_cons, List.length_nil, List.replicate, List.cons_append, List.nil_append, List.append_nil, List.set_cons_zero, List.set_cons_succ, List.getElem?_cons_zero, List.getElem?_cons_succ, Option.some.injEq, V.ref.injEq, V.int.injEq, V.str.injEq, V.bl.injEq, V.ty.injEq, exists_eq_left', exists_eq_left, exists_and_left, List.cons.injEq, and_true, true_and, sc_ii, sc_ss, sc_bb, sc_ni, sc_in, sc_is, sc_si, sc_nn, decide_true, decide_false, reduceCtorEq, Bool.false_eq_true, if_true, if_false, ite_true, ite_false, exists_const, eq_self, false_and, and_false, or_false, false_or, exists_false, Evl.rLenS, rSum, wipe, tYes, exists_eq, exists_eq', rIxL, rIxT, rIxS, exists_and_right, gt_iff_lt, not_true_eq_false, not_false_eq_true, Bool.not_true, Bool.not_false, decide_eq_true_eq, Nat.reduceSub, Nat.reduceAdd, List.append_assoc, tChain, tDIn, tDNotIn, sDDel, tAug, ipI]
    exact fun p np => q p _ np ⟨np, [], upd_same, rfl, fun i z e => by cases e⟩ (Kp.new np)
theorem ok_Shape_init {f : Addr} {fd : FuncData} (F : Fun K "__init__" "Shape.__init__" s_Shape_init f fd) {BN fB : Addr} {fdB : FuncData} (E_BadNumber : Er1 P w K mg base "BadNumber" "number" BN fB fdB ["self", "number"] (fun _ => True))
    {fb : Addr} {fdb : FuncData} (D_is_number : Df K mg "is_number" s_is_number ["value"] fb fdb) (G_is_number : FnOk P w K mg base CX0 2 fb fdb ["value"] (spD (fun _ => True) (belowD 10))) : FnOk P w K mg base (L2.CX P w) 4 f fd ["self", "size"] (spSI K BN) := by
  refine F.okX sc_Shape_init (fun vs H Q E h => ?_) (fun cdv A outer s H vs Q E hr h => ?_)
  · obtain ⟨o, C, dx, n, rfl, _⟩ := h
    rfl
  · obtain ⟨o, C, dx, n, rfl, ho, cl, qG, qB⟩ := h
    have hu := hu_of hr
    refine ⟨_, (pss_cons (ps_if (PW.pt (pw_or (pt_not (pt_val (pe_call G_is_number (hr.mono (by decide)) rfl D_is_number.g D_is_number.F.kp D_is_number.b .nil pass0 (pa_cons (pv 1) pa_nil)))) (pw_or1 (pt_cmpR op_eq (pv 1) pe_int (nomark _))))) (pss_one (ps_raise rfl (takes_of rfl rfl rfl rfl) (pmk_oex E_BadNumber.ox E_BadNumber.ic E_BadNumber.ti E_BadNumber.G (hr.mono (by decide)) E_BadNumber.b .nil passL rfl E_BadNumber.k (pa_cons (pv 1) pa_nil)))) pss_nil)
      (pss_one (ps_fld (pv 0) (pv 1) rfl))), ?_⟩
    try simp (maxSteps := 1000000) only [tSeq, tIfS, tTest, tOp, tUn, tCB, tCons, tNil, tVar, tC, rI0, rI, rU, rEq, rNe, tRet, tRetN, tAsg, gName, gSub, tBM, tBM0, tNext, tB, tNot, tAnd, tOr, tIf, tCall, tDrop, tBreak, tCont, L2.start, tDGet, sDPut, tTup, tLst, tDNewK, tRevL, rCat, rAppend, rPop, rSetL, tAndV, tOrV, tNotV, tSl, tPart, tNoPart, tM1, gTup, gCons, gNil, cxK, cxnK, List.map_cons, List.map_nil, List.length_cons, List.length_nil, List.replicate, List.cons_append, List.nil_append, List.append_nil, List.set_cons_zero, List.set_cons_succ, List.getElem?_cons_zero, List.getElem?_cons_succ, Option.some.injEq, V.ref.injEq, V.int.injEq, V.str.injEq, V.bl.injEq, V.ty.injEq, exists_eq_left', exists_eq_left, exists_and_left, List.cons.injEq, and_true, true_and, sc_ii, sc_ss, sc_bb, sc_ni, sc_in, sc_is, sc_si, sc_nn, decide_true, decide_false, reduceCtorEq, Bool.false_eq_true, if_true, if_false, ite_true, ite_false, exists_const, eq_self, false_and, and_false, or_false, false_or, exists_false, Evl.rLenS, rSum, wipe, tYes, exists_eq, exists_eq', rIxL, rIxT, rIxS, exists_and_right, gt_iff_lt, not_true_eq_false, not_false_eq_true, Bool.not_true, Bool.not_false, decide_eq_true_eq, Nat.reduceSub, Nat.reduceAdd, List.append_assoc, tChain, tDIn, tDNotIn, sDDel, tAug, ipI, sFld]
    refine ⟨.int n, .int n, rfl, .int n, rfl, True.intro, fun H1 k1 => ⟨_, rfl, ?_⟩⟩
    have bad : ∀ (hb : ¬ (1 ≤ n ∧ n ≤ 9)), tMkO BN (spErr1 BN (Str.ofString "number") fun x => True) [] (tCons (tVar 1) tNil) [some (V.ref o), some (V.int n)] H1 fun cls d H' => E cls d H' := fun hb => by
      exact Exists.intro (V.int n) (And.intro rfl (err1_made (P := fun _ => True) True.intro fun x H' ne he k => qB hb x H' (noneB k1 ne) he (k1.trans k)))
    show if (!(decide (0 ≤ n) && decide (n < 10))) = true then _ else _
    by_cases h1 : 0 ≤ n ∧ n < 10
    · rw [if_neg (by simp [h1.1, h1.2])]
      refine ite2 (fun e => bad (by omega)) (fun e => ?_)
      exact ⟨C, dx, _, k1 _ _ not0 ho, cl.cl, cl.n1, by decide, qG (by omega) (by omega) H1 k1⟩
    · rw [if_pos (by simp; omega)]
      exact bad (by omega)
theorem ok_table_of {f : Addr} {fd : FuncData} (D : Df K mg "table_of" s_table_of ["shape"] f fd) {c : Nat → Addr} (SF : ShF P w K mg base c) {TC BT fT : Addr} {fdT : FuncData} (C : TbC K mg TC) (M_Table : Mk K TC fT) (bI_Table : Binds K fdT ["self", "rows", "first"] []) (G_Table_init : FnOk P w K mg base (L2.CX P w) 6 fT fdT ["self", "rows", "first"] (spTI TC BT)) :
    FnOk P w K mg base (L2.CX P w) 8 f fd ["shape"] (spTabOf c TC) := by
  refine D.F.okX sc_table_of (fun vs H Q E h => ?_) (fun cdv A outer s H vs Q E hr h => ?_)
  · obtain ⟨o, i, dx, m, rfl, _⟩ := h
    rfl
  · obtain ⟨o, i, dx, m, rfl, hi, ho, m1, m9, hne, q⟩ := h
    refine ⟨_, (pss_one (ps_ret (pe_make M_Table G_Table_init (hr.mono (by decide)) rfl C.k bI_Table .nil (passes_call (E := E) (takes_of rfl rfl rfl rfl) (fun _ _ _ _ h => h)) (pa_cons (pe_rows SF (hr.mono (by decide)) (pv 0)) (pa_cons pe_int pa_nil))))), ?_⟩
    try simp (maxSteps := 1000000) only [tSeq, tIfS, tTest, tOp, tUn, tCB, tCons, tNil, tVar, tC, rI0, rI, rU, rEq, rNe, tRet, tRetN, tAsg, gName, gSub, tBM, tBM0, tNext, tB, tNot, tAnd, tOr, tIf, tCall, tDrop, tBreak, tCont, L2.start, tDGet, sDPut, tTup, tLst, tDNewK, tRevL, rCat, rAppend, rPop, rSetL, tAndV, tOrV, tNotV, tSl, tPart, tNoPart, tM1, gTup, gCons, gNil, cxK, cxnK, List.map_cons, List.map_nil, List.length_cons, List.length_nil, List.replicate, List.cons_append, List.nil_append, List.append_nil, List.set_cons_zero, List.set_cons_succ, List.getElem?_cons_zero, List.getElem?_cons_succ, Option.some.injEq, V.ref.injEq, V.int.injEq, V.str.injEq, V.bl.injEq, V.ty.injEq, exists_eq_left', exists_eq_left, exists_and_left, List.cons.injEq, and_true, true_and, sc_ii, sc_ss, sc_bb, sc_ni, sc_in, sc_is, sc_si, sc_nn, decide_true, decide_false, reduceCtorEq, Bool.false_eq_true, if_true, if_false, ite_true, ite_false, exists_const, eq_self, false_and, and_false, or_false, false_or, exists_false, Evl.rLenS, rSum, wipe, tYes, exists_eq, exists_eq', rIxL, rIxT, rIxS, exists_and_right, gt_iff_lt, not_true_eq_false, not_false_eq_true, Bool.not_true, Bool.not_false, decide_eq_true_eq, Nat.reduceSub, Nat.reduceAdd, List.append_assoc, tChain, tDIn, tDNotIn, sDDel, tAug, ipI, tMake, tShRows, tMeth]
    refine ⟨i, hi, dx, _, ho, rfl, o, dx, m, rfl, ho, m1, m9, fun r H1 nr hR k1 => ?_⟩
    intro t dt nt ndt ne
    have nd := nmS_nd i hi
    refine mk_tab hR.at (cellB_do m1 m9) nd.1 hne (by omega) nd.2.1 m1 (by omega) (by decide) (by omega) nt ndt ne.symm fun H3 hT k3 => ⟨rfl, q t H3 hT (k1.trans k3)⟩
end
end My

set_option Elab.async false
set_option linter.all false
set_option maxRecDepth 100000
set_option maxHeartbeats 4000000
namespace My
open PySem L2 NdefX ClX
abbrev s_law_is_whole : Stmt := top 33
theorem sc_law_is_whole : FnScope ["_law_told", "_law_due"] ["_law_told", "_law_due"] (defScope s_law_is_whole) := ⟨rfl, rfl, rfl, by decide +kernel, rfl, by decide +kernel, by decide +kernel⟩
abbrev s_law_names : Stmt := top 35
theorem sc_law_names : FnScope ["_law_which"] ["_law_which"] (defScope s_law_names) := ⟨rfl, rfl, rfl, by decide +kernel, rfl, by decide +kernel, by decide +kernel⟩
abbrev s_law_do : Stmt := top 36
theorem sc_law_do : FnScope ["_law_name", "_law_state", "_law_size"] ["_law_name", "_law_state", "_law_size"] (defScope s_law_do) := ⟨rfl, rfl, rfl, by decide +kernel, rfl, by decide +kernel, by decide +kernel⟩
abbrev s_law_is_pair : Stmt := top 37
theorem sc_law_is_pair : FnScope ["_law_told", "_law_due"] ["_law_told", "_law_due"] (defScope s_law_is_pair) := ⟨rfl, rfl, rfl, by decide +kernel, rfl, by decide +kernel, by decide +kernel⟩
structure BtI (mg : Str → Option Value) : Prop where
  b_int : mg "int" = none
  b_isinstance : mg "isinstance" = none
  b_bool : mg "bool" = none
  b_tuple : mg "tuple" = none
  b_len : mg "len" = none
  b_list : mg "list" = none
  b_range : mg "range" = none
  b_dict : mg "dict" = none
theorem dqStrs {H : Hp} : ∀ {zs : List Str} {vs : List V}, DqAll H vs (zs.map PyData.str) → vs = zs.map V.str
  | [], _, h => by cases h; rfl
  | z :: zs, _, h => by
    cases h with
    | cons a t => cases a; rw [dqStrs t]; rfl
theorem dqAt {H : Hp} : ∀ {ds : List PyData} {vs : List V} {i : Nat} {d : PyData}, DqAll H vs ds → ds[i]? = some d → ∃ v, vs[i]? = some v ∧ Dq H v d
  | _ :: _, _, 0, _, h, e => by cases h with
    | cons a t => cases e; exact ⟨_, rfl, a⟩
  | _ :: _, _, i + 1, _, h, e => by cases h with
    | cons a t => obtain ⟨v, ev, hv⟩ := dqAt t e; exact ⟨v, ev, hv⟩
section
variable {P : Program} {w : World} {K : PySem.W.Frag} {mg : Str → Option Value} {base : Heap} {tL t1 t2 : Tok}
def spWhole : Sp := fun vs H Q _ => ∃ i j : Int, vs = [.int i, .int j] ∧ Q (.bl (decide (i = j))) H
theorem ok_law_is_whole {f : Addr} {fd : FuncData} (D : Df K mg "_law_is_whole" s_law_is_whole ["_law_told", "_law_due"] f fd) (T : BtI mg) : FnOk P w K mg base CX0 1 f fd ["_law_told", "_law_due"] spWhole := by
  refine D.F.ok sc_law_is_whole (fun vs H Q E h => ?_) (fun cdv A outer s H vs Q E hr h => ?_)
  · obtain ⟨i, j, rfl, _⟩ := h
    rfl
  · obtain ⟨i, j, rfl, q⟩ := h
    refine ⟨_, (pss_one (ps_ret (pe_and (pe_callB (id := "isinstance") (r := rIsi K) call_isi (by rfl) T.b_isinstance (by decide +kernel) (pa_cons (pv 0) (pa_cons (pe_bltn (v := .ty "int") (by rfl) T.b_int (by decide +kernel) rfl) pa_nil))) (pe_and (pe_not (pe_callB (id := "isinstance") (r := rIsi K) call_isi (by rfl) T.b_isinstance (by decide +kernel) (pa_cons (pv 0) (pa_cons (pe_bltn (v := .ty "bool") (by rfl) T.b_bool (by decide +kernel) rfl) pa_nil)))) (pe_one (pe_cmpR op_eq (pv 0) (pv 1) (nomark _))))))), ?_⟩
    try simp (maxSteps := 1000000) only [tSeq, tIfS, tTest, tOp, tUn, tCB, tCons, tNil, tVar, tC, rI0, rI, rU, rEq, rNe, tRet, tRetN, tAsg, gName, gSub, tBM, tBM0, tNext, tB, tNot, tAnd, tOr, tIf, tCall, tDrop, tBreak, tCont, L2.start, tDGet, sDPut, tTup, tLst, tDNewK, tRevL, rCat, rAppend, rPop, rSetL, tAndV, tOrV, tNotV, tSl, tPart, tNoPart, tM1, gTup, gCons, gNil, cxK, cxnK, List.map_cons, List.map_nil, List.length_cons, List.length_nil, List.replicate, List.cons_append, List.nil_append, List.append_nil, List.set_cons_zero, List.set_cons_succ, List.getElem?_cons_zero, List.getElem?_cons_succ, Option.some.injEq, V.ref.injEq, V.int.injEq, V.str.injEq, V.bl.injEq, V.ty.injEq, exists_eq_left', exists_eq_left, exists_and_left, List.cons.injEq, and_true, true_and, sc_ii, sc_ss, sc_bb, sc_ni, sc_in, sc_is, sc_si, sc_nn, decide_true, decide_false, reduceCtorEq, Bool.false_eq_true, if_true, if_false, ite_true, ite_false, exists_const, eq_self, false_and, and_false, or_false, false_or, exists_false, Evl.rLenS, rSum, wipe, tYes, exists_eq, exists_eq', rIxL, rIxT, rIxS, exists_and_right, gt_iff_lt, not_true_eq_false, not_false_eq_true, Bool.not_true, Bool.not_false, decide_eq_true_eq, Nat.reduceSub, Nat.reduceAdd, List.append_assoc, tChain, tDIn, tDNotIn, sDDel, tAug, ipI]
    refine isi_int_int ?_
    try simp (maxSteps := 1000000) only [tSeq, tIfS, tTest, tOp, tUn, tCB, tCons, tNil, tVar, tC, rI0, rI, rU, rEq, rNe, tRet, tRetN, tAsg, gName, gSub, tBM, tBM0, tNext, tB, tNot, tAnd, tOr, tIf, tCall, tDrop, tBreak, tCont, L2.start, tDGet, sDPut, tTup, tLst, tDNewK, tRevL, rCat, rAppend, rPop, rSetL, tAndV, tOrV, tNotV, tSl, tPart, tNoPart, tM1, gTup, gCons, gNil, cxK, cxnK, List.map_cons, List.map_nil, List.length_cons, List.length_nil, List.replicate, List.cons_append, List.nil_append, List.append_nil, List.set_cons_zero, List.set_cons_succ, List.getElem?_cons_zero, List.getElem?_cons_succ, Option.some.injEq, V.ref.injEq, V.int.injEq, V.str.injEq, V.bl.injEq, V.ty.injEq, exists_eq_left', exists_eq_left, exists_and_left, List.cons.injEq, and_true, true_and, sc_ii, sc_ss, sc_bb, sc_ni, sc_in, sc_is, sc_si, sc_nn, decide_true, decide_false, reduceCtorEq, Bool.false_eq_true, if_true, if_false, ite_true, ite_false, exists_const, eq_self, false_and, and_false, or_false, false_or, exists_false, Evl.rLenS, rSum, wipe, tYes, exists_eq, exists_eq', rIxL, rIxT, rIxS, exists_and_right, gt_iff_lt, not_true_eq_false, not_false_eq_true, Bool.not_true, Bool.not_false, decide_eq_true_eq, Nat.reduceSub, Nat.reduceAdd, List.append_assoc, tChain, tDIn, tDNotIn, sDDel, tAug, ipI]
    refine isi_int_bool ?_
    try simp (maxSteps := 1000000) only [tSeq, tIfS, tTest, tOp, tUn, tCB, tCons, tNil, tVar, tC, rI0, rI, rU, rEq, rNe, tRet, tRetN, tAsg, gName, gSub, tBM, tBM0, tNext, tB, tNot, tAnd, tOr, tIf, tCall, tDrop, tBreak, tCont, L2.start, tDGet, sDPut, tTup, tLst, tDNewK, tRevL, rCat, rAppend, rPop, rSetL, tAndV, tOrV, tNotV, tSl, tPart, tNoPart, tM1, gTup, gCons, gNil, cxK, cxnK, List.map_cons, List.map_nil, List.length_cons, List.length_nil, List.replicate, List.cons_append, List.nil_append, List.append_nil, List.set_cons_zero, List.set_cons_succ, List.getElem?_cons_zero, List.getElem?_cons_succ, Option.some.injEq, V.ref.injEq, V.int.injEq, V.str.injEq, V.bl.injEq, V.ty.injEq, exists_eq_left', exists_eq_left, exists_and_left, List.cons.injEq, and_true, true_and, sc_ii, sc_ss, sc_bb, sc_ni, sc_in, sc_is, sc_si, sc_nn, decide_true, decide_false, reduceCtorEq, Bool.false_eq_true, if_true, if_false, ite_true, ite_false, exists_const, eq_self, false_and, and_false, or_false, false_or, exists_false, Evl.rLenS, rSum, wipe, tYes, exists_eq, exists_eq', rIxL, rIxT, rIxS, exists_and_right, gt_iff_lt, not_true_eq_false, not_false_eq_true, Bool.not_true, Bool.not_false, decide_eq_true_eq, Nat.reduceSub, Nat.reduceAdd, List.append_assoc, tChain, tDIn, tDNotIn, sDDel, tAug, ipI]
    exact q
def allN : List (List Str) := [[], ["look"], ["up"], ["top"], ["clear"], ["up", "look"], ["clear", "top"], ["clear", "up", "look"]]
def spNm : Sp := fun vs H Q _ => ∃ i : Nat, vs = [.int (i : Nat)] ∧ i < 8 ∧ ∀ l H', H' l = some (.lst ((nmS i).map V.str)) → Kp [] H H' → Q (.ref l) H'
theorem ok_law_names {f : Addr} {fd : FuncData} (D : Df K mg "_law_names" s_law_names ["_law_which"] f fd) (T : BtI mg) : FnOk P w K mg base CX0 1 f fd ["_law_which"] spNm := by
  refine D.F.ok sc_law_names (fun vs H Q E h => ?_) (fun cdv A outer s H vs Q E hr h => ?_)
  · obtain ⟨i, rfl, _⟩ := h
    rfl
  · obtain ⟨i, rfl, hi, q⟩ := h
    have hu := hu_of hr
    refine ⟨_, (pss_one (ps_ret (pe_ix (r := rIxL K) ix_list (pe_lst (pa_cons (pe_lst pa_nil) (pa_cons (pe_lst (pa_cons pe_str pa_nil)) (pa_cons (pe_lst (pa_cons pe_str pa_nil)) (pa_cons (pe_lst (pa_cons pe_str pa_nil)) (pa_cons (pe_lst (pa_cons pe_str pa_nil)) (pa_cons (pe_lst (pa_cons pe_str (pa_cons pe_str pa_nil))) (pa_cons (pe_lst (pa_cons pe_str (pa_cons pe_str pa_nil))) (pa_cons (pe_lst (pa_cons pe_str (pa_cons pe_str (pa_cons pe_str pa_nil)))) pa_nil))))))))) (pv 0) (fun _ _ => rfl)))), ?_⟩
    try simp (maxSteps := 1000000) only [tSeq, tIfS, tTest, tVar, rI0, rI, rU, rEq, rNe, tRet, tRetN, tAsg, gName, gSub, tBM, tBM0, tNext, tB, tNot, tAnd, tOr, tIf, tCall, tDrop, tBreak, tCont, L2.start, tDGet, sDPut, tDNewK, tRevL, rCat, rAppend, rPop, rSetL, tAndV, tOrV, tNotV, tSl, tPart, tNoPart, tM1, gTup, gCons, gNil, cxK, cxnK, List.map_cons, List.map_nil, List.length_cons, List.length_nil, List.replicate, List.cons_append, List.nil_append, List.append_nil, List.set_cons_zero, List.set_cons_succ, List.getElem?_cons_zero, List.getElem?_cons_succ, Option.some.injEq, V.ref.injEq, V.int.injEq, V.str.injEq, V.bl.injEq, V.ty.injEq, exists_eq_left', exists_eq_left, exists_and_left, List.cons.injEq, and_true, true_and, sc_ii, sc_ss, sc_bb, sc_ni, sc_in, sc_is, sc_si, sc_nn, decide_true, decide_false, reduceCtorEq, Bool.false_eq_true, if_true, if_false, ite_true, ite_false, exists_const, eq_self, false_and, and_false, or_false, false_or, exists_false, Evl.rLenS, rSum, wipe, tYes, exists_eq, exists_eq', rIxL, rIxT, rIxS, exists_and_right, gt_iff_lt, not_true_eq_false, not_false_eq_true, Bool.not_true, Bool.not_false, decide_eq_true_eq, Nat.reduceSub, Nat.reduceAdd, List.append_assoc, tChain, tDIn, tDNotIn, sDDel, tAug, ipI]
    have key : ∀ {te : TE}, DE te [some (V.int (i : Nat))] H (.list (allN.map fun l => .list (l.map PyData.str))) → tOp (rIxL K) te (tVar 0) [some (V.int (i : Nat))] H Q := fun {te} h => h H (Kp.refl _ _) _ fun v H1 k1 hv => by
      have ei : (allN.map fun l => PyData.list (l.map PyData.str))[i]? = some (.list ((nmS i).map PyData.str)) := by
        have e : allN[i]? = some (nmS i) := by
          have hl : i < allN.length := hi
          rw [List.getElem?_eq_getElem hl]
          show some _ = some (allN.getD i [])
          rw [List.getD_eq_getElem?_getD, List.getElem?_eq_getElem hl]
          rfl
        rw [List.getElem?_map, e]
        rfl
      cases hv with
      | @lst p xs _ e1 h1 =>
        obtain ⟨v, ev, hv⟩ := dqAt h1 ei
        cases hv with
        | @lst p2 xs2 _ e2 h2 => exact ⟨.int (i : Nat), rfl, p, xs, (i : Nat), _, rfl, rfl, sq_l e1, atI_nat ev, q _ _ (by rw [e2, dqStrs h2]) k1⟩
    refine key (de_lst ?_ (by decide +kernel))
    repeat' first | exact da_nil | refine da_cons ?_ ?_ | refine de_lst ?_ (by simp) | exact de_str
def spDo : Sp := fun vs H Q _ => ∃ (z : Str) (s m : Nat), vs = [.str z, .int (s : Nat), .int (m : Nat)] ∧ s < m ∧ ∀ p H', H' p = some (.tup [.int (doP z m s).1, .int (doP z m s).2]) → Kp [] H H' → Q (.ref p) H'
theorem ok_law_do {f : Addr} {fd : FuncData} (D : Df K mg "_law_do" s_law_do ["_law_name", "_law_state", "_law_size"] f fd) (T : BtI mg) : FnOk P w K mg base CX0 1 f fd ["_law_name", "_law_state", "_law_size"] spDo := by
  refine D.F.ok sc_law_do (fun vs H Q E h => ?_) (fun cdv A outer s H vs Q E hr h => ?_)
  · obtain ⟨z, s, m, rfl, _⟩ := h
    rfl
  · obtain ⟨z, s', m, rfl, hs, q⟩ := h
    refine ⟨_, (pss_cons (ps_if (pt_cmpR op_eq (pv 0) pe_str (nomark _)) (pss_one (ps_ret (pe_tup (pa_cons (pv 1) (pa_cons (pv 1) pa_nil))))) pss_nil)
      (pss_cons (ps_if (pt_cmpR op_eq (pv 0) pe_str (nomark _)) (pss_one (ps_ret (pe_tup (pa_cons (pv 1) (pa_cons (pe_ix (r := rIxL K) ix_list (pe_lst (pa_cons (pe_op op_add (pv 1) pe_int) (pa_cons pe_int pa_nil))) (pe_callTy (T := "int") call_int1 (by rfl) T.b_int (by decide +kernel) (pa_cons (pe_cmpR op_eq (pe_op op_add (pv 1) pe_int) (pv 2) (nomark _)) pa_nil)) (fun _ _ => rfl)) pa_nil))))) pss_nil)
      (pss_cons (ps_if (pt_cmpR op_eq (pv 0) pe_str (nomark _)) (pss_one (ps_ret (pe_tup (pa_cons (pe_callTy (T := "int") call_int1 (by rfl) T.b_int (by decide +kernel) (pa_cons (pe_cmpR op_eq (pe_op op_add (pv 1) pe_int) (pv 2) (nomark _)) pa_nil)) (pa_cons (pe_op op_sub (pv 2) pe_int) pa_nil))))) pss_nil)
      (pss_one (ps_ret (pe_tup (pa_cons pe_int (pa_cons pe_int pa_nil)))))))), ?_⟩
    try simp (maxSteps := 1000000) only [tSeq, tIfS, tTest, tOp, tUn, tCB, tCons, tNil, tVar, tC, rI0, rI, rU, rEq, rNe, tRet, tRetN, tAsg, gName, gSub, tBM, tBM0, tNext, tB, tNot, tAnd, tOr, tIf, tCall, tDrop, tBreak, tCont, L2.start, tDGet, sDPut, tTup, tLst, tDNewK, tRevL, rCat, rAppend, rPop, rSetL, tAndV, tOrV, tNotV, tSl, tPart, tNoPart, tM1, gTup, gCons, gNil, cxK, cxnK, List.map_cons, List.map_nil, List.length_cons, List.length_nil, List.replicate, List.cons_append, List.nil_append, List.append_nil, List.set_cons_zero, List.set_cons_succ, List.getElem?_cons_zero, List.getElem?_cons_succ, Option.some.injEq, V.ref.injEq, V.int.injEq, V.str.injEq, V.bl.injEq, V.ty.injEq, exists_eq_left', exists_eq_left, exists_and_left, List.cons.injEq, and_true, true_and, sc_ii, sc_ss, sc_bb, sc_ni, sc_in, sc_is, sc_si, sc_nn, decide_true, decide_false, reduceCtorEq, Bool.false_eq_true, if_true, if_false, ite_true, ite_false, exists_const, eq_self, false_and, and_false, or_false, false_or, exists_false, Evl.rLenS, rSum, wipe, tYes, exists_eq, exists_eq', rIxL, rIxT, rIxS, exists_and_right, gt_iff_lt, not_true_eq_false, not_false_eq_true, Bool.not_true, Bool.not_false, decide_eq_true_eq, Nat.reduceSub, Nat.reduceAdd, List.append_assoc, tChain, tDIn, tDNotIn, sDDel, tAug, ipI]
    have two : (2 : Nat) ≤ sizeLine := by rw [sizeLine_eq]; decide
    refine ite2 (fun e => ⟨two, fun p np => q p _ ?_ (Kp.new np)⟩) fun e1 => ite2 (fun e => ⟨two, fun p np => ?_⟩) fun e2 => ite2 (fun e => ⟨two, fun p np => q p _ ?_ (Kp.new np)⟩) fun e3 => ⟨two, fun p np => q p _ ?_ (Kp.new np)⟩
    · rw [e, doP_look]; exact upd_same
    · have k1 : Kp [] H (upd H p (.lst [V.int ((s' : Int) + 1), V.int 0])) := Kp.new np
      subst e
      by_cases e : (s' : Int) + 1 = m
      · rw [if_pos e]
        refine ⟨_, sq_l upd_same, .int 0, rfl, two, fun p2 np2 => q p2 _ ?_ (k1.trans (Kp.new np2))⟩
        rw [doP_up, show s' + 1 = m by omega, Nat.mod_self]; exact upd_same
      · rw [if_neg e]
        refine ⟨_, sq_l upd_same, .int ((s' : Int) + 1), rfl, two, fun p2 np2 => q p2 _ ?_ (k1.trans (Kp.new np2))⟩
        rw [doP_up, Nat.mod_eq_of_lt (show s' + 1 < m by omega)]; exact upd_same
    · rw [e, doP_top]
      by_cases e : s' + 1 = m
      · rw [if_pos e, if_pos (show (s' : Int) + 1 = m by omega)]; exact upd_same
      · rw [if_neg e, if_neg (show ¬ (s' : Int) + 1 = m by omega)]; exact upd_same
    · rw [show doP z m s' = (0, 0) from (if_neg e1).trans ((if_neg e2).trans (if_neg e3))]; exact upd_same
def spIsP : Sp := fun vs H Q _ => ∃ (p r : Addr) (a b : Int), vs = [.ref p, .ref r] ∧ H p = some (.tup [.int a, .int b]) ∧ H r = some (.tup [.int a, .int b]) ∧ Q (.bl true) H
theorem ok_law_is_pair {f : Addr} {fd : FuncData} (D : Df K mg "_law_is_pair" s_law_is_pair ["_law_told", "_law_due"] f fd) (T : BtI mg) {fw : Addr} {fdw : FuncData} (D_law_is_whole : Df K mg "_law_is_whole" s_law_is_whole ["_law_told", "_law_due"] fw fdw) (G_law_is_whole : FnOk P w K mg base CX0 1 fw fdw ["_law_told", "_law_due"] spWhole) : FnOk P w K mg base CX0 2 f fd ["_law_told", "_law_due"] spIsP := by
  refine D.F.ok sc_law_is_pair (fun vs H Q E h => ?_) (fun cdv A outer s H vs Q E hr h => ?_)
  · obtain ⟨p, r, a, b, rfl, _⟩ := h
    rfl
  · obtain ⟨p, r, a, b, rfl, hp, hr', q⟩ := h
    refine ⟨_, (pss_cons (ps_if (PW.pt (pw_or (pt_not (pt_val (pe_callB (id := "isinstance") (r := rIsi K) call_isi (by rfl) T.b_isinstance (by decide +kernel) (pa_cons (pv 0) (pa_cons (pe_bltn (v := .ty "tuple") (by rfl) T.b_tuple (by decide +kernel) rfl) pa_nil))))) (pw_or1 (pt_cmpR op_ne (pe_callB (id := "len") (r := Evl.rLenS K) call_len_seq (by rfl) T.b_len PySem.boot_len (pa_cons (pv 0) pa_nil)) pe_int (nomark _))))) (pss_one (ps_ret pe_bl)) pss_nil)
      (pss_one (ps_ret (pe_and (pe_call G_law_is_whole (hr.mono (by decide)) rfl D_law_is_whole.g D_law_is_whole.F.kp D_law_is_whole.b .nil pass0 (pa_cons (pe_ix (r := rIxT K) ix_tup (pv 0) pe_int (fun _ _ => rfl)) (pa_cons (pe_ix (r := rIxT K) ix_tup (pv 1) pe_int (fun _ _ => rfl)) pa_nil))) (pe_one (pe_call G_law_is_whole (hr.mono (by decide)) rfl D_law_is_whole.g D_law_is_whole.F.kp D_law_is_whole.b .nil pass0 (pa_cons (pe_ix (r := rIxT K) ix_tup (pv 0) pe_int (fun _ _ => rfl)) (pa_cons (pe_ix (r := rIxT K) ix_tup (pv 1) pe_int (fun _ _ => rfl)) pa_nil)))))))), ?_⟩
    try simp (maxSteps := 1000000) only [tSeq, tIfS, tTest, tOp, tUn, tCB, tCons, tNil, tVar, tC, rI0, rI, rU, rEq, rNe, tRet, tRetN, tAsg, gName, gSub, tBM, tBM0, tNext, tB, tNot, tAnd, tOr, tIf, tCall, tDrop, tBreak, tCont, L2.start, tDGet, sDPut, tTup, tLst, tDNewK, tRevL, rCat, rAppend, rPop, rSetL, tAndV, tOrV, tNotV, tSl, tPart, tNoPart, tM1, gTup, gCons, gNil, cxK, cxnK, List.map_cons, List.map_nil, List.length_cons, List.length_nil, List.replicate, List.cons_append, List.nil_append, List.append_nil, List.set_cons_zero, List.set_cons_succ, List.getElem?_cons_zero, List.getElem?_cons_succ, Option.some.injEq, V.ref.injEq, V.int.injEq, V.str.injEq, V.bl.injEq, V.ty.injEq, exists_eq_left', exists_eq_left, exists_and_left, List.cons.injEq, and_true, true_and, sc_ii, sc_ss, sc_bb, sc_ni, sc_in, sc_is, sc_si, sc_nn, decide_true, decide_false, reduceCtorEq, Bool.false_eq_true, if_true, if_false, ite_true, ite_false, exists_const, eq_self, false_and, and_false, or_false, false_or, exists_false, Evl.rLenS, rSum, wipe, tYes, exists_eq, exists_eq', rIxL, rIxT, rIxS, exists_and_right, gt_iff_lt, not_true_eq_false, not_false_eq_true, Bool.not_true, Bool.not_false, decide_eq_true_eq, Nat.reduceSub, Nat.reduceAdd, List.append_assoc, tChain, tDIn, tDNotIn, sDDel, tAug, ipI]
    refine isi_mk (b := true) (.tup hp) (by decide +kernel) ?_
    try simp (maxSteps := 1000000) only [tSeq, tIfS, tTest, tOp, tUn, tCB, tCons, tNil, tVar, tC, rI0, rI, rU, rEq, rNe, tRet, tRetN, tAsg, gName, gSub, tBM, tBM0, tNext, tB, tNot, tAnd, tOr, tIf, tCall, tDrop, tBreak, tCont, L2.start, tDGet, sDPut, tTup, tLst, tDNewK, tRevL, rCat, rAppend, rPop, rSetL, tAndV, tOrV, tNotV, tSl, tPart, tNoPart, tM1, gTup, gCons, gNil, cxK, cxnK, List.map_cons, List.map_nil, List.length_cons, List.length_nil, List.replicate, List.cons_append, List.nil_append, List.append_nil, List.set_cons_zero, List.set_cons_succ, List.getElem?_cons_zero, List.getElem?_cons_succ, Option.some.injEq, V.ref.injEq, V.int.injEq, V.str.injEq, V.bl.injEq, V.ty.injEq, exists_eq_left', exists_eq_left, exists_and_left, List.cons.injEq, and_true, true_and, sc_ii, sc_ss, sc_bb, sc_ni, sc_in, sc_is, sc_si, sc_nn, decide_true, decide_false, reduceCtorEq, Bool.false_eq_true, if_true, if_false, ite_true, ite_false, exists_const, eq_self, false_and, and_false, or_false, false_or, exists_false, Evl.rLenS, rSum, wipe, tYes, exists_eq, exists_eq', rIxL, rIxT, rIxS, exists_and_right, gt_iff_lt, not_true_eq_false, not_false_eq_true, Bool.not_true, Bool.not_false, decide_eq_true_eq, Nat.reduceSub, Nat.reduceAdd, List.append_assoc, tChain, tDIn, tDNotIn, sDDel, tAug, ipI]
    refine ⟨_, .inr (sq_t hp), ?_⟩
    rw [if_neg (by simp)]
    refine ⟨_, sq_t hp, _, rfl, _, sq_t hr', _, rfl, a, a, rfl, _, rfl, ?_⟩
    rw [if_pos (decide_eq_true rfl)]
    exact ⟨_, sq_t hp, _, rfl, _, sq_t hr', _, rfl, b, b, rfl, by rw [decide_eq_true rfl]; exact q⟩
end
end My

set_option Elab.async false
set_option linter.all false
set_option maxRecDepth 100000
set_option maxHeartbeats 4000000
namespace My
open PySem L2 NdefX StX ClX
abbrev s_law_make : Stmt := top 34
theorem sc_law_make : FnScope ["_law_which", "_law_size"] ["_law_which", "_law_size"] (defScope s_law_make) := ⟨rfl, rfl, rfl, by decide +kernel, rfl, by decide +kernel, by decide +kernel⟩
abbrev s_law_kin : Stmt := top 40
theorem sc_law_kin : FnScope ["_law_shape", "_law_names_here", "_law_kin_here", "_law_name"] ["_law_shape", "_law_names_here"] (defScope s_law_kin) := ⟨rfl, rfl, rfl, by decide +kernel, rfl, by decide +kernel, by decide +kernel⟩
abbrev s_law_bad_size : Stmt := top 41
theorem sc_law_bad_size : FnScope ["_law_which", "_law_size", "e"] ["_law_which", "_law_size"] (defScope s_law_bad_size) := ⟨rfl, rfl, rfl, by decide +kernel, rfl, by decide +kernel, by decide +kernel⟩
def clsN (i : Nat) : Str := (["Shape", "Looks", "Ups", "Tops", "Clears", "Ticket", "Latch", "Meter"] : List Str).getD i ""
structure BtC (K : PySem.W.Frag) (mg : Str → Option Value) (c : Nat → Addr) : Prop where
  k : ∀ i, i < 8 → mg (clsN i) = some (.ref (c i))
  b_isinstance : mg "isinstance" = none
/-- what isinstance tells of the i-th class and the j-th -/
def kinB (i j : Nat) : Bool := match j with
  | 0 => true
  | 1 => decide (("look" : Str) ∈ nmS i)
  | 2 => decide (("up" : Str) ∈ nmS i)
  | 3 => decide (("top" : Str) ∈ nmS i)
  | _ => decide (("clear" : Str) ∈ nmS i)
structure KinF (K : PySem.W.Frag) (c : Nat → Addr) : Prop where
  ins : ∀ i, i < 8 → C8.InsC K (c i)
  kin : ∀ i, i < 8 → ∀ j, j < 5 → PySem.W.kitOne K (.ref (c i)) (.ref (c j)) = some (kinB i j)
theorem BtC.k_Shape {K : PySem.W.Frag} {mg : Str → Option Value} {c : Nat → Addr} (T : BtC K mg c) : mg "Shape" = some (.ref (c 0)) := T.k 0 (by decide)
theorem BtC.k_Looks {K : PySem.W.Frag} {mg : Str → Option Value} {c : Nat → Addr} (T : BtC K mg c) : mg "Looks" = some (.ref (c 1)) := T.k 1 (by decide)
theorem BtC.k_Ups {K : PySem.W.Frag} {mg : Str → Option Value} {c : Nat → Addr} (T : BtC K mg c) : mg "Ups" = some (.ref (c 2)) := T.k 2 (by decide)
theorem BtC.k_Tops {K : PySem.W.Frag} {mg : Str → Option Value} {c : Nat → Addr} (T : BtC K mg c) : mg "Tops" = some (.ref (c 3)) := T.k 3 (by decide)
theorem BtC.k_Clears {K : PySem.W.Frag} {mg : Str → Option Value} {c : Nat → Addr} (T : BtC K mg c) : mg "Clears" = some (.ref (c 4)) := T.k 4 (by decide)
theorem inV_strS {z : Str} : ∀ {ks : List Str}, inV (.str z) (ks.map V.str) = decide (z ∈ ks)
  | [] => rfl
  | k :: ks => by
    have e : inV (.str z) ((k :: ks).map V.str) = ((k == z) || inV (.str z) (ks.map V.str)) := rfl
    rw [e, inV_strS (ks := ks)]
    by_cases h : k = z
    · rw [h, beq_self_eq_true, Bool.true_or, decide_eq_true List.mem_cons_self]
    · rw [beq_eq_false_iff_ne.mpr h, Bool.false_or]
      refine decide_eq_decide.mpr ⟨fun q => List.mem_cons_of_mem _ q, fun q => ?_⟩
      rcases List.mem_cons.mp q with q | q
      · exact absurd q.symm h
      · exact q
theorem flatStrs : ∀ (ks : List Str), (ks.map V.str).all flatV = true
  | [] => rfl
  | _ :: r => flatStrs r
theorem lcL {K : PySem.W.Frag} {te : TE} {g : TG} {tt : TT} {tb : TE} {vs : List Nat} {σ : L2.St} {H : Hp} {Q : VK} (Pa : Addr → Hp → Prop) (ht : ∀ R : VK, (∀ a H1, Pa a H1 → R (.ref a) H1) → te σ H R) (h : ∀ a H1, Pa a H1 → tLc (iList K (fun _ _ q => q (.ref a) H1)) g tt tb vs σ H1 Q) : tLc (iList K te) g tt tb vs σ H Q :=
  ht _ fun a H1 p => h a H1 p
/-- [b(z) for z in zs], zs a list of texts -/
theorem lcStrB {K : PySem.W.Frag} {tv : TE} {te : TE} {j : Nat} {σ : L2.St} {H : Hp} {Q : VK} {a : Addr} {zs : List Str} {put : Str → V} (hv : ∀ R : VK, R (.ref a) H → tv σ H R) (ha : SqL K H a (zs.map V.str)) (hl : zs.length ≤ 1000) (hj : j < σ.length)
    (elt : ∀ z H' (Q' : VK), z ∈ zs → Kp [] H H' → (∀ H2, Kp [] H' H2 → Q' (put z) H2) → te ((wipe σ [j]).set j (some (.str z))) H' Q')
    (fin : ∀ D H', H D = none → H' D = some (.lst (zs.map put)) → Kp [] H H' → Q (.ref D) H') : tLc (iList K tv) (gName j) tYes te [j] σ H Q := by
  unfold tLc iList
  refine hv _ ⟨a, rfl, ⟨_, ha⟩, fun D nD => ?_⟩
  refine lc_list (xs := zs.map V.str) (fun i H' => H' D = some (.lst ((zs.take i).map put)) ∧ Kp [] H H') ⟨upd_same, Kp.new nD⟩ (fun i H' _ h => h.2.ls not0 ha) (fun i x H' hx h => ?_) fun H' h => ?_
  · obtain ⟨z, ez, rfl⟩ : ∃ z, zs[i]? = some z ∧ V.str z = x := by
      rw [List.getElem?_map] at hx
      cases e : zs[i]? with
      | none => rw [e] at hx; cases hx
      | some z => rw [e] at hx; exact ⟨z, rfl, Option.some.inj hx⟩
    obtain ⟨hD, kp⟩ := h
    refine ⟨by simp [wipe], ?_⟩
    simp only [tYes, if_true]
    refine elt z H' _ (List.mem_of_getElem? ez) kp fun H2 k2 => ?_
    refine ⟨_, k2 _ _ not0 hD, ?_, ?_, (kp.trans k2).wr nD⟩
    · rw [List.length_map, List.length_take]; exact smallL (by omega)
    · rw [upd_same, List.take_succ, ez, List.map_append]; rfl
  · obtain ⟨hD, kp⟩ := h
    rw [List.length_map, List.take_length] at hD
    exact fin D H' nD hD kp
theorem kin_is {K : PySem.W.Frag} {c : Nat → Addr} (KF : KinF K c) {H : Hp} {o dx i : Nat} {v : V} (hi : i < 8) (ho : H o = some (.ins (c i) dx [("size", v)])) (j : Nat) (hj : j < 5) {Q : VK} (q : Q (.bl (kinB i j)) H) : rIsi K [.ref o, .ref (c j)] H Q :=
  ⟨.ref o, .ref (c j), .ref (c i), .ref (c j), kinB i j, rfl, .own _, .base (.ins ho (KF.ins i hi).cl (KF.ins i hi).ha (KF.ins i hi).hn (KF.ins i hi).htk (KF.ins i hi).hm), KF.kin i hi j hj, q⟩
structure BtE (K : PySem.W.Frag) (mg : Str → Option Value) (CE BN BT : Addr) : Prop where
  k_CoreError : mg "CoreError" = some (.ref CE)
  k_BadNumber : mg "BadNumber" = some (.ref BN)
  k_BadTable : mg "BadTable" = some (.ref BT)
  XB : XfC K BN
  fB : PySem.W.findIn K (.ref BN) "number" = some none
  EB : PySem.W.exmOne K (.ref BN) (.ref BN) = some true
  KB : KitC K BN
  b1 : PySem.W.kitOne K (.ref BN) (.ref CE) = some true
  b3 : PySem.W.kitOne K (.ref BN) (.ref BT) = some false
  b_isinstance : mg "isinstance" = none
def spMake (c : Nat → Addr) (BN : Addr) : Sp := fun vs H Q E => ∃ (i : Nat) (n : Int), vs = [.int (i : Nat), .int n] ∧ i < 8 ∧ (1 ≤ n → n ≤ 9 → ∀ (o dx : Addr) (H' : Hp), H o = none → H' o = some (.ins (c i) dx [("size", .int n)]) → Kp [] H H' → Q (.ref o) H') ∧
  (¬ (1 ≤ n ∧ n ≤ 9) → ∀ (e : Addr) (H' : Hp), H e = none → H' e = some (.xd [("number", .int n)]) → Kp [] H H' → E (.ref BN) (some e) H')
def spKin (c : Nat → Addr) : Sp := fun vs H Q _ => ∃ (o i dx l : Nat) (v : V), vs = [.ref o, .ref l] ∧ i < 8 ∧ H o = some (.ins (c i) dx [("size", v)]) ∧ H l = some (.lst ((nmS i).map V.str)) ∧ ∀ H', Kp [] H H' → Q (.bl true) H'
def spBadS : Sp := fun vs H Q _ => ∃ (i : Nat) (n : Int), vs = [.int (i : Nat), .int n] ∧ i < 8 ∧ ¬ (1 ≤ n ∧ n ≤ 9) ∧ ∀ H', Kp [] H H' → Q (.bl true) H'
section
variable {P : Program} {w : World} {K : PySem.W.Frag} {mg : Str → Option Value} {base : Heap} {tL t1 t2 : Tok}
theorem ok_law_make {f : Addr} {fd : FuncData} (D : Df K mg "_law_make" s_law_make ["_law_which", "_law_size"] f fd) {c : Nat → Addr} {BN fI : Addr} {fdI : FuncData} (T : BtC K mg c) (M : ∀ i, i < 8 → Mk K (c i) fI) (CL : ∀ i, i < 8 → ClsS K (c i)) (bI_Shape : Binds K fdI ["self", "size"] []) (G_Shape_init : FnOk P w K mg base (L2.CX P w) 4 fI fdI ["self", "size"] (spSI K BN)) :
    FnOk P w K mg base (L2.CX P w) 6 f fd ["_law_which", "_law_size"] (spMake c BN) := by
  refine D.F.okX sc_law_make (fun vs H Q E h => ?_) (fun cdv A outer s H vs Q E hr h => ?_)
  · obtain ⟨i, n, rfl, _⟩ := h
    rfl
  · obtain ⟨i, n, rfl, hi, qG, qB⟩ := h
    have M_Shape := M 0 (by decide)
    have M_Looks := M 1 (by decide)
    have M_Ups := M 2 (by decide)
    have M_Tops := M 3 (by decide)
    have M_Clears := M 4 (by decide)
    have M_Ticket := M 5 (by decide)
    have M_Latch := M 6 (by decide)
    have M_Meter := M 7 (by decide)
    have G_Looks_init := G_Shape_init
    have G_Ups_init := G_Shape_init
    have G_Tops_init := G_Shape_init
    have G_Clears_init := G_Shape_init
    have G_Ticket_init := G_Shape_init
    have G_Latch_init := G_Shape_init
    have G_Meter_init := G_Shape_init
    refine ⟨_, (pss_cons (ps_if (pt_cmpR op_eq (pv 0) pe_int (nomark _)) (pss_one (ps_ret (pe_make M_Shape G_Shape_init (hr.mono (by decide)) rfl (T.k 0 (by decide)) bI_Shape .nil (passes_call (E := E) (takes_of rfl rfl rfl rfl) (fun _ _ _ _ h => h)) (pa_cons (pv 1) pa_nil)))) pss_nil)
      (pss_cons (ps_if (pt_cmpR op_eq (pv 0) pe_int (nomark _)) (pss_one (ps_ret (pe_make M_Looks G_Looks_init (hr.mono (by decide)) rfl (T.k 1 (by decide)) bI_Shape .nil (passes_call (E := E) (takes_of rfl rfl rfl rfl) (fun _ _ _ _ h => h)) (pa_cons (pv 1) pa_nil)))) pss_nil)
      (pss_cons (ps_if (pt_cmpR op_eq (pv 0) pe_int (nomark _)) (pss_one (ps_ret (pe_make M_Ups G_Ups_init (hr.mono (by decide)) rfl (T.k 2 (by decide)) bI_Shape .nil (passes_call (E := E) (takes_of rfl rfl rfl rfl) (fun _ _ _ _ h => h)) (pa_cons (pv 1) pa_nil)))) pss_nil)
      (pss_cons (ps_if (pt_cmpR op_eq (pv 0) pe_int (nomark _)) (pss_one (ps_ret (pe_make M_Tops G_Tops_init (hr.mono (by decide)) rfl (T.k 3 (by decide)) bI_Shape .nil (passes_call (E := E) (takes_of rfl rfl rfl rfl) (fun _ _ _ _ h => h)) (pa_cons (pv 1) pa_nil)))) pss_nil)
      (pss_cons (ps_if (pt_cmpR op_eq (pv 0) pe_int (nomark _)) (pss_one (ps_ret (pe_make M_Clears G_Clears_init (hr.mono (by decide)) rfl (T.k 4 (by decide)) bI_Shape .nil (passes_call (E := E) (takes_of rfl rfl rfl rfl) (fun _ _ _ _ h => h)) (pa_cons (pv 1) pa_nil)))) pss_nil)
      (pss_cons (ps_if (pt_cmpR op_eq (pv 0) pe_int (nomark _)) (pss_one (ps_ret (pe_make M_Ticket G_Ticket_init (hr.mono (by decide)) rfl (T.k 5 (by decide)) bI_Shape .nil (passes_call (E := E) (takes_of rfl rfl rfl rfl) (fun _ _ _ _ h => h)) (pa_cons (pv 1) pa_nil)))) pss_nil)
      (pss_cons (ps_if (pt_cmpR op_eq (pv 0) pe_int (nomark _)) (pss_one (ps_ret (pe_make M_Latch G_Latch_init (hr.mono (by decide)) rfl (T.k 6 (by decide)) bI_Shape .nil (passes_call (E := E) (takes_of rfl rfl rfl rfl) (fun _ _ _ _ h => h)) (pa_cons (pv 1) pa_nil)))) pss_nil)
      (pss_one (ps_ret (pe_make M_Meter G_Meter_init (hr.mono (by decide)) rfl (T.k 7 (by decide)) bI_Shape .nil (passes_call (E := E) (takes_of rfl rfl rfl rfl) (fun _ _ _ _ h => h)) (pa_cons (pv 1) pa_nil))))))))))), ?_⟩
    try simp (maxSteps := 1000000) only [tSeq, tIfS, tTest, tOp, tUn, tCB, tCons, tNil, tVar, tC, rI0, rI, rU, rEq, rNe, tRet, tRetN, tAsg, gName, gSub, tBM, tBM0, tNext, tB, tNot, tAnd, tOr, tIf, tCall, tDrop, tBreak, tCont, L2.start, tDGet, sDPut, tTup, tLst, tDNewK, tRevL, rCat, rAppend, rPop, rSetL, tAndV, tOrV, tNotV, tSl, tPart, tNoPart, tM1, gTup, gCons, gNil, cxK, cxnK, List.map_cons, List.map_nil, List.length_cons, List.length_nil, List.replicate, List.cons_append, List.nil_append, List.append_nil, List.set_cons_zero, List.set_cons_succ, List.getElem?_cons_zero, List.getElem?_cons_succ, Option.some.injEq, V.ref.injEq, V.int.injEq, V.str.injEq, V.bl.injEq, V.ty.injEq, exists_eq_left', exists_eq_left, exists_and_left, List.cons.injEq, and_true, true_and, sc_ii, sc_ss, sc_bb, sc_ni, sc_in, sc_is, sc_si, sc_nn, decide_true, decide_false, reduceCtorEq, Bool.false_eq_true, if_true, if_false, ite_true, ite_false, exists_const, eq_self, false_and, and_false, or_false, false_or, exists_false, Evl.rLenS, rSum, wipe, tYes, exists_eq, exists_eq', rIxL, rIxT, rIxS, exists_and_right, gt_iff_lt, not_true_eq_false, not_false_eq_true, Bool.not_true, Bool.not_false, decide_eq_true_eq, Nat.reduceSub, Nat.reduceAdd, List.append_assoc, tChain, tDIn, tDNotIn, sDDel, tAug, ipI]
    have go : ∀ j : Nat, i = j → tMake (c j) (spSI K BN) [] E (tCons (tVar 1) tNil) [some (V.int (i : Nat)), some (V.int n)] H Q := by
      rintro j rfl
      try simp (maxSteps := 1000000) only [tSeq, tIfS, tTest, tOp, tUn, tCB, tCons, tNil, tVar, tC, rI0, rI, rU, rEq, rNe, tRet, tRetN, tAsg, gName, gSub, tBM, tBM0, tNext, tB, tNot, tAnd, tOr, tIf, tCall, tDrop, tBreak, tCont, L2.start, tDGet, sDPut, tTup, tLst, tDNewK, tRevL, rCat, rAppend, rPop, rSetL, tAndV, tOrV, tNotV, tSl, tPart, tNoPart, tM1, gTup, gCons, gNil, cxK, cxnK, List.map_cons, List.map_nil, List.length_cons, List.length_nil, List.replicate, List.cons_append, List.nil_append, List.append_nil, List.set_cons_zero, List.set_cons_succ, List.getElem?_cons_zero, List.getElem?_cons_succ, Option.some.injEq, V.ref.injEq, V.int.injEq, V.str.injEq, V.bl.injEq, V.ty.injEq, exists_eq_left', exists_eq_left, exists_and_left, List.cons.injEq, and_true, true_and, sc_ii, sc_ss, sc_bb, sc_ni, sc_in, sc_is, sc_si, sc_nn, decide_true, decide_false, reduceCtorEq, Bool.false_eq_true, if_true, if_false, ite_true, ite_false, exists_const, eq_self, false_and, and_false, or_false, false_or, exists_false, Evl.rLenS, rSum, wipe, tYes, exists_eq, exists_eq', rIxL, rIxT, rIxS, exists_and_right, gt_iff_lt, not_true_eq_false, not_false_eq_true, Bool.not_true, Bool.not_false, decide_eq_true_eq, Nat.reduceSub, Nat.reduceAdd, List.append_assoc, tChain, tDIn, tDNotIn, sDDel, tAug, ipI, tMake]
      intro o dx no ndx ne
      have kn : Kp [] H (upd (upd H dx (.own o)) o (.ins (c i) dx [])) := (Kp.new ndx).trans (Kp.new (by rw [upd_ne ne.symm]; exact no))
      refine ⟨o, c i, dx, n, rfl, upd_same, CL i hi, fun h1 h9 H' k => ⟨rfl, qG h1 h9 o dx _ no upd_same ?_⟩, fun hn e H' ne' he k => qB hn e H' (noneB kn ne') he (kn.trans k)⟩
      exact (kn.trans k).wr no
    refine ite2 (fun e => go 0 (by omega)) fun e0 => ite2 (fun e => go 1 (by omega)) fun e1 => ite2 (fun e => go 2 (by omega)) fun e2 => ite2 (fun e => go 3 (by omega)) fun e3 => ite2 (fun e => go 4 (by omega)) fun e4 => ite2 (fun e => go 5 (by omega)) fun e5 => ite2 (fun e => go 6 (by omega)) fun e6 => go 7 (by omega)
theorem ok_law_kin {f : Addr} {fd : FuncData} (D : Df K mg "_law_kin" s_law_kin ["_law_shape", "_law_names_here"] f fd) {c : Nat → Addr} (T : BtC K mg c) (KF : KinF K c) : FnOk P w K mg base CX0 1 f fd ["_law_shape", "_law_names_here"] (spKin c) := by
  refine D.F.ok sc_law_kin (fun vs H Q E h => ?_) (fun cdv A outer s H vs Q E hr h => ?_)
  · obtain ⟨_, _, _, _, _, rfl, _⟩ := h
    rfl
  · obtain ⟨o, i, dx, l, v, rfl, hi, ho, hl, q⟩ := h
    have hu := hu_of hr
    refine ⟨_, (pss_cons (ps_set (i := 2) sc_law_kin.nd rfl (Or.inl rfl) (pe_lst (pa_cons (pe_callB (id := "isinstance") (r := rIsi K) call_isi (by rfl) T.b_isinstance (by decide +kernel) (pa_cons (pv 0) (pa_cons (pe_glob (v := .ref (c 1)) rfl T.k_Looks rfl) pa_nil))) (pa_cons (pe_callB (id := "isinstance") (r := rIsi K) call_isi (by rfl) T.b_isinstance (by decide +kernel) (pa_cons (pv 0) (pa_cons (pe_glob (v := .ref (c 2)) rfl T.k_Ups rfl) pa_nil))) (pa_cons (pe_callB (id := "isinstance") (r := rIsi K) call_isi (by rfl) T.b_isinstance (by decide +kernel) (pa_cons (pv 0) (pa_cons (pe_glob (v := .ref (c 3)) rfl T.k_Tops rfl) pa_nil))) (pa_cons (pe_callB (id := "isinstance") (r := rIsi K) call_isi (by rfl) T.b_isinstance (by decide +kernel) (pa_cons (pv 0) (pa_cons (pe_glob (v := .ref (c 4)) rfl T.k_Clears rfl) pa_nil))) pa_nil))))))
      (pss_one (ps_ret (pe_and (pe_callB (id := "isinstance") (r := rIsi K) call_isi (by rfl) T.b_isinstance (by decide +kernel) (pa_cons (pv 0) (pa_cons (pe_glob (v := .ref (c 0)) rfl T.k_Shape rfl) pa_nil))) (pe_one (pe_cmpR (op_eqD hr.units) (pv 2) (pe_lc (own := [("_law_name", 3)]) (g := (gName 3)) (tt := tYes) rfl sc_law_kin.nd (pi_list (pe_lst (pa_cons pe_str (pa_cons pe_str (pa_cons pe_str (pa_cons pe_str pa_nil)))))) (blkOk_by (N := ["_law_shape", "_law_names_here", "_law_kin_here", "_law_name"]) (sc := defScope s_law_kin) (by decide +kernel)) (fun _ _ _ _ _ => (pg_name (i := 3) sc_law_kin.nd rfl (Or.inl rfl))) (fun _ _ _ _ _ => pts_nil) (fun _ _ _ _ _ => (pe_cmpR (r := rIn K false) op_in_seq (pv 3) (pv 1) (by rfl)))) (nomark _))))))), ?_⟩
    try simp (maxSteps := 1000000) only [tSeq, tIfS, tTest, tOp, tUn, tCB, tCons, tNil, tVar, tC, rI0, rI, rU, rEq, rNe, tRet, tRetN, tAsg, gName, gSub, tBM, tBM0, tNext, tB, tNot, tAnd, tOr, tIf, tCall, tDrop, tBreak, tCont, L2.start, tDGet, sDPut, tTup, tLst, tDNewK, tRevL, rCat, rAppend, rPop, rSetL, tAndV, tOrV, tNotV, tSl, tPart, tNoPart, tM1, gTup, gCons, gNil, cxK, cxnK, List.map_cons, List.map_nil, List.length_cons, List.length_nil, List.replicate, List.cons_append, List.nil_append, List.append_nil, List.set_cons_zero, List.set_cons_succ, List.getElem?_cons_zero, List.getElem?_cons_succ, Option.some.injEq, V.ref.injEq, V.int.injEq, V.str.injEq, V.bl.injEq, V.ty.injEq, exists_eq_left', exists_eq_left, exists_and_left, List.cons.injEq, and_true, true_and, sc_ii, sc_ss, sc_bb, sc_ni, sc_in, sc_is, sc_si, sc_nn, decide_true, decide_false, reduceCtorEq, Bool.false_eq_true, if_true, if_false, ite_true, ite_false, exists_const, eq_self, false_and, and_false, or_false, false_or, exists_false, Evl.rLenS, rSum, wipe, tYes, exists_eq, exists_eq', rIxL, rIxT, rIxS, exists_and_right, gt_iff_lt, not_true_eq_false, not_false_eq_true, Bool.not_true, Bool.not_false, decide_eq_true_eq, Nat.reduceSub, Nat.reduceAdd, List.append_assoc, tChain, tDIn, tDNotIn, sDDel, tAug, ipI]
    refine kin_is KF hi ho 1 (by decide) (kin_is KF hi ho 2 (by decide) (kin_is KF hi ho 3 (by decide) (kin_is KF hi ho 4 (by decide) ⟨by rw [sizeLine_eq]; decide, fun p np => ?_⟩)))
    have kp : Kp [] H (upd H p (.lst [.bl (kinB i 1), .bl (kinB i 2), .bl (kinB i 3), .bl (kinB i 4)])) := Kp.new np
    refine kin_is KF hi (kp _ _ not0 ho) 0 (by decide) ⟨_, rfl, ?_⟩
    rw [show kinB i 0 = true from rfl, if_pos rfl]
    refine lcL (fun a H1 => H1 a = some (.lst ((["look", "up", "top", "clear"] : List Str).map V.str)) ∧ Kp [] (upd H p (.lst [.bl (kinB i 1), .bl (kinB i 2), .bl (kinB i 3), .bl (kinB i 4)])) H1) (fun R hR => ?_) fun a H1 ⟨ha, k1⟩ => ?_
    · try simp (maxSteps := 1000000) only [tSeq, tIfS, tTest, tOp, tUn, tCB, tCons, tNil, tVar, tC, rI0, rI, rU, rEq, rNe, tRet, tRetN, tAsg, gName, gSub, tBM, tBM0, tNext, tB, tNot, tAnd, tOr, tIf, tCall, tDrop, tBreak, tCont, L2.start, tDGet, sDPut, tTup, tLst, tDNewK, tRevL, rCat, rAppend, rPop, rSetL, tAndV, tOrV, tNotV, tSl, tPart, tNoPart, tM1, gTup, gCons, gNil, cxK, cxnK, List.map_cons, List.map_nil, List.length_cons, List.length_nil, List.replicate, List.cons_append, List.nil_append, List.append_nil, List.set_cons_zero, List.set_cons_succ, List.getElem?_cons_zero, List.getElem?_cons_succ, Option.some.injEq, V.ref.injEq, V.int.injEq, V.str.injEq, V.bl.injEq, V.ty.injEq, exists_eq_left', exists_eq_left, exists_and_left, List.cons.injEq, and_true, true_and, sc_ii, sc_ss, sc_bb, sc_ni, sc_in, sc_is, sc_si, sc_nn, decide_true, decide_false, reduceCtorEq, Bool.false_eq_true, if_true, if_false, ite_true, ite_false, exists_const, eq_self, false_and, and_false, or_false, false_or, exists_false, Evl.rLenS, rSum, wipe, tYes, exists_eq, exists_eq', rIxL, rIxT, rIxS, exists_and_right, gt_iff_lt, not_true_eq_false, not_false_eq_true, Bool.not_true, Bool.not_false, decide_eq_true_eq, Nat.reduceSub, Nat.reduceAdd, List.append_assoc, tChain, tDIn, tDNotIn, sDDel, tAug, ipI]
      exact ⟨by rw [sizeLine_eq]; decide, fun p2 np2 => hR _ _ ⟨upd_same, Kp.new np2⟩⟩
    refine lcStrB (zs := (["look", "up", "top", "clear"] : List Str)) (put := fun z => V.bl (decide (z ∈ nmS i))) (fun R h => h) (sq_l ha) (by decide) (by simp) (fun z H2 Q' _ k2 hQ => ?_) fun D H2 nD hD k2 => ?_
    · try simp (maxSteps := 1000000) only [tSeq, tIfS, tTest, tOp, tUn, tCB, tCons, tNil, tVar, tC, rI0, rI, rU, rEq, rNe, tRet, tRetN, tAsg, gName, gSub, tBM, tBM0, tNext, tB, tNot, tAnd, tOr, tIf, tCall, tDrop, tBreak, tCont, L2.start, tDGet, sDPut, tTup, tLst, tDNewK, tRevL, rCat, rAppend, rPop, rSetL, tAndV, tOrV, tNotV, tSl, tPart, tNoPart, tM1, gTup, gCons, gNil, cxK, cxnK, List.map_cons, List.map_nil, List.length_cons, List.length_nil, List.replicate, List.cons_append, List.nil_append, List.append_nil, List.set_cons_zero, List.set_cons_succ, List.getElem?_cons_zero, List.getElem?_cons_succ, Option.some.injEq, V.ref.injEq, V.int.injEq, V.str.injEq, V.bl.injEq, V.ty.injEq, exists_eq_left', exists_eq_left, exists_and_left, List.cons.injEq, and_true, true_and, sc_ii, sc_ss, sc_bb, sc_ni, sc_in, sc_is, sc_si, sc_nn, decide_true, decide_false, reduceCtorEq, Bool.false_eq_true, if_true, if_false, ite_true, ite_false, exists_const, eq_self, false_and, and_false, or_false, false_or, exists_false, Evl.rLenS, rSum, wipe, tYes, exists_eq, exists_eq', rIxL, rIxT, rIxS, exists_and_right, gt_iff_lt, not_true_eq_false, not_false_eq_true, Bool.not_true, Bool.not_false, decide_eq_true_eq, Nat.reduceSub, Nat.reduceAdd, List.append_assoc, tChain, tDIn, tDNotIn, sDDel, tAug, ipI]
      have hl2 := k2 _ _ not0 (k1 _ _ not0 (kp _ _ not0 hl))
      refine ⟨l, _, rfl, .inl (sq_l hl2), rfl, flatStrs _, ?_⟩
      rw [inV_strS]
      exact hQ _ (Kp.refl _ _)
    · have k12 := k1.trans k2
      have sh : SeqAt.shaped (.list [.bool (kinB i 1), .bool (kinB i 2), .bool (kinB i 3), .bool (kinB i 4)]) = true := rfl
      refine ⟨.list [.bool (kinB i 1), .bool (kinB i 2), .bool (kinB i 3), .bool (kinB i 4)], .list [.bool (kinB i 1), .bool (kinB i 2), .bool (kinB i 3), .bool (kinB i 4)], .lst (sq_l (k12 _ _ not0 upd_same)) (.cons (.bl _) (.cons (.bl _) (.cons (.bl _) (.cons (.bl _) .nil)))), .lst (sq_l hD) (.cons (.bl _) (.cons (.bl _) (.cons (.bl _) (.cons (.bl _) .nil)))), sh, sh, ?_⟩
      rw [SeqAt.eqv_refl _ (SeqAt.canLay_of_shaped sh)]
      exact q _ (kp.trans k12)
theorem okz_law_is_whole {f : Addr} {fd : FuncData} (D : Df K mg "_law_is_whole" s_law_is_whole ["_law_told", "_law_due"] f fd) (T : BtI mg) : FnZ P w K mg base CX0 1 f fd ["_law_told", "_law_due"] spWhole := by
  obtain ⟨oc, od, kV, doc, pm, an, cdv, ct, osl, hfd, lk, hcd⟩ := D.F.ex
  rw [hfd] at lk ⊢
  refine fn_ofZ lk hcd sc_law_is_whole (fun vs H Q E h => ?_) (fun A outer s H vs Q E h => ?_)
  · obtain ⟨i, j, rfl, _⟩ := h
    rfl
  · obtain ⟨i, j, rfl, q⟩ := h
    refine ⟨_, (pss_one (ps_ret (pe_and (pe_callB (id := "isinstance") (r := rIsi K) call_isi (by rfl) T.b_isinstance (by decide +kernel) (pa_cons (pv 0) (pa_cons (pe_bltn (v := .ty "int") (by rfl) T.b_int (by decide +kernel) rfl) pa_nil))) (pe_and (pe_not (pe_callB (id := "isinstance") (r := rIsi K) call_isi (by rfl) T.b_isinstance (by decide +kernel) (pa_cons (pv 0) (pa_cons (pe_bltn (v := .ty "bool") (by rfl) T.b_bool (by decide +kernel) rfl) pa_nil)))) (pe_one (pe_cmpR op_eq (pv 0) (pv 1) (nomark _))))))), ?_⟩
    try simp (maxSteps := 1000000) only [tSeq, tIfS, tTest, tOp, tUn, tCB, tCons, tNil, tVar, tC, rI0, rI, rU, rEq, rNe, tRet, tRetN, tAsg, gName, gSub, tBM, tBM0, tNext, tB, tNot, tAnd, tOr, tIf, tCall, tDrop, tBreak, tCont, L2.start, tDGet, sDPut, tTup, tLst, tDNewK, tRevL, rCat, rAppend, rPop, rSetL, tAndV, tOrV, tNotV, tSl, tPart, tNoPart, tM1, gTup, gCons, gNil, cxK, cxnK, List.map_cons, List.map_nil, List.length_cons, List.length_nil, List.replicate, List.cons_append, List.nil_append, List.append_nil, List.set_cons_zero, List.set_cons_succ, List.getElem?_cons_zero, List.getElem?_cons_succ, Option.some.injEq, V.ref.injEq, V.int.injEq, V.str.injEq, V.bl.injEq, V.ty.injEq, exists_eq_left', exists_eq_left, exists_and_left, List.cons.injEq, and_true, true_and, sc_ii, sc_ss, sc_bb, sc_ni, sc_in, sc_is, sc_si, sc_nn, decide_true, decide_false, reduceCtorEq, Bool.false_eq_true, if_true, if_false, ite_true, ite_false, exists_const, eq_self, false_and, and_false, or_false, false_or, exists_false, Evl.rLenS, rSum, wipe, tYes, exists_eq, exists_eq', rIxL, rIxT, rIxS, exists_and_right, gt_iff_lt, not_true_eq_false, not_false_eq_true, Bool.not_true, Bool.not_false, decide_eq_true_eq, Nat.reduceSub, Nat.reduceAdd, List.append_assoc, tChain, tDIn, tDNotIn, sDDel, tAug, ipI]
    refine isi_int_int ?_
    try simp (maxSteps := 1000000) only [tSeq, tIfS, tTest, tOp, tUn, tCB, tCons, tNil, tVar, tC, rI0, rI, rU, rEq, rNe, tRet, tRetN, tAsg, gName, gSub, tBM, tBM0, tNext, tB, tNot, tAnd, tOr, tIf, tCall, tDrop, tBreak, tCont, L2.start, tDGet, sDPut, tTup, tLst, tDNewK, tRevL, rCat, rAppend, rPop, rSetL, tAndV, tOrV, tNotV, tSl, tPart, tNoPart, tM1, gTup, gCons, gNil, cxK, cxnK, List.map_cons, List.map_nil, List.length_cons, List.length_nil, List.replicate, List.cons_append, List.nil_append, List.append_nil, List.set_cons_zero, List.set_cons_succ, List.getElem?_cons_zero, List.getElem?_cons_succ, Option.some.injEq, V.ref.injEq, V.int.injEq, V.str.injEq, V.bl.injEq, V.ty.injEq, exists_eq_left', exists_eq_left, exists_and_left, List.cons.injEq, and_true, true_and, sc_ii, sc_ss, sc_bb, sc_ni, sc_in, sc_is, sc_si, sc_nn, decide_true, decide_false, reduceCtorEq, Bool.false_eq_true, if_true, if_false, ite_true, ite_false, exists_const, eq_self, false_and, and_false, or_false, false_or, exists_false, Evl.rLenS, rSum, wipe, tYes, exists_eq, exists_eq', rIxL, rIxT, rIxS, exists_and_right, gt_iff_lt, not_true_eq_false, not_false_eq_true, Bool.not_true, Bool.not_false, decide_eq_true_eq, Nat.reduceSub, Nat.reduceAdd, List.append_assoc, tChain, tDIn, tDNotIn, sDDel, tAug, ipI]
    refine isi_int_bool ?_
    try simp (maxSteps := 1000000) only [tSeq, tIfS, tTest, tOp, tUn, tCB, tCons, tNil, tVar, tC, rI0, rI, rU, rEq, rNe, tRet, tRetN, tAsg, gName, gSub, tBM, tBM0, tNext, tB, tNot, tAnd, tOr, tIf, tCall, tDrop, tBreak, tCont, L2.start, tDGet, sDPut, tTup, tLst, tDNewK, tRevL, rCat, rAppend, rPop, rSetL, tAndV, tOrV, tNotV, tSl, tPart, tNoPart, tM1, gTup, gCons, gNil, cxK, cxnK, List.map_cons, List.map_nil, List.length_cons, List.length_nil, List.replicate, List.cons_append, List.nil_append, List.append_nil, List.set_cons_zero, List.set_cons_succ, List.getElem?_cons_zero, List.getElem?_cons_succ, Option.some.injEq, V.ref.injEq, V.int.injEq, V.str.injEq, V.bl.injEq, V.ty.injEq, exists_eq_left', exists_eq_left, exists_and_left, List.cons.injEq, and_true, true_and, sc_ii, sc_ss, sc_bb, sc_ni, sc_in, sc_is, sc_si, sc_nn, decide_true, decide_false, reduceCtorEq, Bool.false_eq_true, if_true, if_false, ite_true, ite_false, exists_const, eq_self, false_and, and_false, or_false, false_or, exists_false, Evl.rLenS, rSum, wipe, tYes, exists_eq, exists_eq', rIxL, rIxT, rIxS, exists_and_right, gt_iff_lt, not_true_eq_false, not_false_eq_true, Bool.not_true, Bool.not_false, decide_eq_true_eq, Nat.reduceSub, Nat.reduceAdd, List.append_assoc, tChain, tDIn, tDNotIn, sDDel, tAug, ipI]
    exact q
theorem ok_law_bad_size {f : Addr} {fd : FuncData} (D : Df K mg "_law_bad_size" s_law_bad_size ["_law_which", "_law_size"] f fd) {c : Nat → Addr} {CE BN BT : Addr} (T : BtE K mg CE BN BT)
    {fw : Addr} {fdw : FuncData} (D_law_is_whole : Df K mg "_law_is_whole" s_law_is_whole ["_law_told", "_law_due"] fw fdw) (Z_law_is_whole : FnZ P w K mg base CX0 1 fw fdw ["_law_told", "_law_due"] spWhole)
    {fm : Addr} {fdm : FuncData} (D_law_make : Df K mg "_law_make" s_law_make ["_law_which", "_law_size"] fm fdm) (G_law_make : FnOk P w K mg base (L2.CX P w) 6 fm fdm ["_law_which", "_law_size"] (spMake c BN)) : FnOk P w K mg base CX0 7 f fd ["_law_which", "_law_size"] spBadS := by
  refine D.F.ok sc_law_bad_size (fun vs H Q E h => ?_) (fun cdv A outer s H vs Q E hr h => ?_)
  · obtain ⟨_, _, rfl, _⟩ := h
    rfl
  · obtain ⟨i, n, rfl, hi, hn, q⟩ := h
    have XF_BadNumber := T.XB
    have NO_number := T.fB
    refine ⟨_, (pss_cons (ps_try_as (i := 2) rfl rfl sc_law_bad_size.nd rfl rfl ⟨rfl, by decide, .inl T.k_BadNumber⟩ takes0 (fun W pn xe tk _ => (pss_one (ps_expr (pe_callS G_law_make (hr.mono (by decide)) rfl D_law_make.g D_law_make.F.kp D_law_make.b (fun σ => passAt tk σ) (pa_cons (pv 0) (pa_cons (pv 1) pa_nil)))))) (fun a oe cls d pn hz hf => (pss_one (ps_ret (pe_and (pe_callZ Z_law_is_whole (roomZ_mark (Room.mono (j := 1) hr (by decide))) rfl D_law_is_whole.g D_law_is_whole.F.kp D_law_is_whole.b (fun σ pins H s e s' I h => pass0 pins σ H s e s' I h) (pa_cons (pe_xf XF_BadNumber NO_number hz hf (pv 2)) (pa_cons (pv 1) pa_nil))) (pe_and (pe_callB (id := "isinstance") (r := rIsX K a cls d) (call_isX hz hf) (by rfl) T.b_isinstance (by decide +kernel) (pa_cons (pv 2) (pa_cons (pe_glob (v := .ref CE) rfl T.k_CoreError rfl) pa_nil))) (pe_one (pe_not (pe_callB (id := "isinstance") (r := rIsX K a cls d) (call_isX hz hf) (by rfl) T.b_isinstance (by decide +kernel) (pa_cons (pv 2) (pa_cons (pe_glob (v := .ref BT) rfl T.k_BadTable rfl) pa_nil)))))))))))
      (pss_one (ps_ret pe_bl))), ?_⟩
    try simp (maxSteps := 1000000) only [tSeq, tIfS, tTest, tOp, tUn, tCB, tCons, tNil, tVar, tC, rI0, rI, rU, rEq, rNe, tRet, tRetN, tAsg, gName, gSub, tBM, tBM0, tNext, tB, tNot, tAnd, tOr, tIf, tCall, tDrop, tBreak, tCont, L2.start, tDGet, sDPut, tTup, tLst, tDNewK, tRevL, rCat, rAppend, rPop, rSetL, tAndV, tOrV, tNotV, tSl, tPart, tNoPart, tM1, gTup, gCons, gNil, cxK, cxnK, List.map_cons, List.map_nil, List.length_cons, List.length_nil, List.replicate, List.cons_append, List.nil_append, List.append_nil, List.set_cons_zero, List.set_cons_succ, List.getElem?_cons_zero, List.getElem?_cons_succ, Option.some.injEq, V.ref.injEq, V.int.injEq, V.str.injEq, V.bl.injEq, V.ty.injEq, exists_eq_left', exists_eq_left, exists_and_left, List.cons.injEq, and_true, true_and, sc_ii, sc_ss, sc_bb, sc_ni, sc_in, sc_is, sc_si, sc_nn, decide_true, decide_false, reduceCtorEq, Bool.false_eq_true, if_true, if_false, ite_true, ite_false, exists_const, eq_self, false_and, and_false, or_false, false_or, exists_false, Evl.rLenS, rSum, wipe, tYes, exists_eq, exists_eq', rIxL, rIxT, rIxS, exists_and_right, gt_iff_lt, not_true_eq_false, not_false_eq_true, Bool.not_true, Bool.not_false, decide_eq_true_eq, Nat.reduceSub, Nat.reduceAdd, List.append_assoc, tChain, tDIn, tDNotIn, sDDel, tAug, ipI, tCallS]
    refine ⟨i, n, rfl, hi, fun h1 h9 => absurd ⟨h1, h9⟩ hn, fun _ x H1 nx hx k1 => ?_⟩
    refine ⟨true, T.EB, fun _ y ny => ?_, fun z => by cases z⟩
    try simp (maxSteps := 1000000) only [tSeq, tIfS, tTest, tOp, tUn, tCB, tCons, tNil, tVar, tC, rI0, rI, rU, rEq, rNe, tRet, tRetN, tAsg, gName, gSub, tBM, tBM0, tNext, tB, tNot, tAnd, tOr, tIf, tCall, tDrop, tBreak, tCont, L2.start, tDGet, sDPut, tTup, tLst, tDNewK, tRevL, rCat, rAppend, rPop, rSetL, tAndV, tOrV, tNotV, tSl, tPart, tNoPart, tM1, gTup, gCons, gNil, cxK, cxnK, List.map_cons, List.map_nil, List.length_cons, List.length_nil, List.replicate, List.cons_append, List.nil_append, List.append_nil, List.set_cons_zero, List.set_cons_succ, List.getElem?_cons_zero, List.getElem?_cons_succ, Option.some.injEq, V.ref.injEq, V.int.injEq, V.str.injEq, V.bl.injEq, V.ty.injEq, exists_eq_left', exists_eq_left, exists_and_left, List.cons.injEq, and_true, true_and, sc_ii, sc_ss, sc_bb, sc_ni, sc_in, sc_is, sc_si, sc_nn, decide_true, decide_false, reduceCtorEq, Bool.false_eq_true, if_true, if_false, ite_true, ite_false, exists_const, eq_self, false_and, and_false, or_false, false_or, exists_false, Evl.rLenS, rSum, wipe, tYes, exists_eq, exists_eq', rIxL, rIxT, rIxS, exists_and_right, gt_iff_lt, not_true_eq_false, not_false_eq_true, Bool.not_true, Bool.not_false, decide_eq_true_eq, Nat.reduceSub, Nat.reduceAdd, List.append_assoc, tChain, tDIn, tDNotIn, sDDel, tAug, ipI, tXf, Ends.off, tCallS]
    refine ⟨_, hx, _, rfl, n, n, rfl, ?_⟩
    rw [decide_eq_true rfl]
    try simp (maxSteps := 1000000) only [tSeq, tIfS, tTest, tOp, tUn, tCB, tCons, tNil, tVar, tC, rI0, rI, rU, rEq, rNe, tRet, tRetN, tAsg, gName, gSub, tBM, tBM0, tNext, tB, tNot, tAnd, tOr, tIf, tCall, tDrop, tBreak, tCont, L2.start, tDGet, sDPut, tTup, tLst, tDNewK, tRevL, rCat, rAppend, rPop, rSetL, tAndV, tOrV, tNotV, tSl, tPart, tNoPart, tM1, gTup, gCons, gNil, cxK, cxnK, List.map_cons, List.map_nil, List.length_cons, List.length_nil, List.replicate, List.cons_append, List.nil_append, List.append_nil, List.set_cons_zero, List.set_cons_succ, List.getElem?_cons_zero, List.getElem?_cons_succ, Option.some.injEq, V.ref.injEq, V.int.injEq, V.str.injEq, V.bl.injEq, V.ty.injEq, exists_eq_left', exists_eq_left, exists_and_left, List.cons.injEq, and_true, true_and, sc_ii, sc_ss, sc_bb, sc_ni, sc_in, sc_is, sc_si, sc_nn, decide_true, decide_false, reduceCtorEq, Bool.false_eq_true, if_true, if_false, ite_true, ite_false, exists_const, eq_self, false_and, and_false, or_false, false_or, exists_false, Evl.rLenS, rSum, wipe, tYes, exists_eq, exists_eq', rIxL, rIxT, rIxS, exists_and_right, gt_iff_lt, not_true_eq_false, not_false_eq_true, Bool.not_true, Bool.not_false, decide_eq_true_eq, Nat.reduceSub, Nat.reduceAdd, List.append_assoc, tChain, tDIn, tDNotIn, sDDel, tAug, ipI]
    refine ⟨.ref CE, .ref CE, true, BN, x, _, rfl, fun u h => h, rfl, rfl, hx, T.KB, T.b1, true, rfl, ?_⟩
    try simp (maxSteps := 1000000) only [tSeq, tIfS, tTest, tOp, tUn, tCB, tCons, tNil, tVar, tC, rI0, rI, rU, rEq, rNe, tRet, tRetN, tAsg, gName, gSub, tBM, tBM0, tNext, tB, tNot, tAnd, tOr, tIf, tCall, tDrop, tBreak, tCont, L2.start, tDGet, sDPut, tTup, tLst, tDNewK, tRevL, rCat, rAppend, rPop, rSetL, tAndV, tOrV, tNotV, tSl, tPart, tNoPart, tM1, gTup, gCons, gNil, cxK, cxnK, List.map_cons, List.map_nil, List.length_cons, List.length_nil, List.replicate, List.cons_append, List.nil_append, List.append_nil, List.set_cons_zero, List.set_cons_succ, List.getElem?_cons_zero, List.getElem?_cons_succ, Option.some.injEq, V.ref.injEq, V.int.injEq, V.str.injEq, V.bl.injEq, V.ty.injEq, exists_eq_left', exists_eq_left, exists_and_left, List.cons.injEq, and_true, true_and, sc_ii, sc_ss, sc_bb, sc_ni, sc_in, sc_is, sc_si, sc_nn, decide_true, decide_false, reduceCtorEq, Bool.false_eq_true, if_true, if_false, ite_true, ite_false, exists_const, eq_self, false_and, and_false, or_false, false_or, exists_false, Evl.rLenS, rSum, wipe, tYes, exists_eq, exists_eq', rIxL, rIxT, rIxS, exists_and_right, gt_iff_lt, not_true_eq_false, not_false_eq_true, Bool.not_true, Bool.not_false, decide_eq_true_eq, Nat.reduceSub, Nat.reduceAdd, List.append_assoc, tChain, tDIn, tDNotIn, sDDel, tAug, ipI]
    exact ⟨.ref BT, .ref BT, false, BN, x, _, rfl, fun u h => h, rfl, rfl, hx, T.KB, T.b3, false, rfl, q H1 k1⟩
end
end My

set_option Elab.async false
set_option linter.all false
set_option maxRecDepth 100000
set_option maxHeartbeats 4000000
namespace My
open PySem L2 NdefX StX ClX
abbrev s_law_right : Stmt := top 38
theorem sc_law_right : FnScope ["_law_rows", "_law_names_here", "_law_size", "_law_name", "_law_row", "_law_state"] ["_law_rows", "_law_names_here", "_law_size"] (defScope s_law_right) := ⟨rfl, rfl, rfl, by decide +kernel, rfl, by decide +kernel, by decide +kernel⟩
abbrev s_law_table : Stmt := top 39
theorem sc_law_table : FnScope ["_law_table_here", "_law_names_here", "_law_size", "_law_calls", "_law_told", "_law_name", "_law_state", "_law_answers", "_law_k", "_law_pair"] ["_law_table_here", "_law_names_here", "_law_size", "_law_calls"] (defScope s_law_table) := ⟨rfl, rfl, rfl, by decide +kernel, rfl, by decide +kernel, by decide +kernel⟩
def Fit (d : PyData) : Prop := SeqAt.shaped d = true ∧ d.depth ≤ 60
theorem fit_str {z : Str} (h : PyData.canLay0 (.str z) = true) : Fit (.str z) := by
  refine ⟨?_, by show PyData.depth (.str z) ≤ 60; simp [PyData.depth]⟩
  unfold SeqAt.shaped
  rw [h]
  simp [PyData.depth]
theorem fitL {ds : List PyData} (h : ∀ d ∈ ds, Fit d) : SeqAt.shaped (.list ds) = true ∧ SeqAt.shaped (.tuple ds) = true := by
  have a1 : PyData.canLayAll0 ds = true := by
    induction ds with
    | nil => rfl
    | cons d r ih =>
      have h1 := h d List.mem_cons_self
      show (PyData.canLay0 d && PyData.canLayAll0 r) = true
      rw [SeqAt.canLay_of_shaped h1.1, ih fun x hx => h x (List.mem_cons_of_mem _ hx)]; rfl
  have a2 : PyData.depthAll ds ≤ 60 := by
    clear a1
    induction ds with
    | nil => exact Nat.zero_le _
    | cons d r ih =>
      have h1 := h d List.mem_cons_self
      have h2 := ih fun x hx => h x (List.mem_cons_of_mem _ hx)
      show max d.depth (PyData.depthAll r) ≤ 60
      have hd := h1.2
      omega
  have b1 : decide (PyData.depthAll ds + 1 ≤ 64) = true := decide_eq_true (by omega)
  constructor <;> (show (PyData.canLayAll0 ds && decide (PyData.depthAll ds + 1 ≤ 64)) = true; rw [a1, b1]; rfl)
theorem dpStrs {K : PySem.W.Frag} {H : Hp} : ∀ zs : List Str, DpAll K H (zs.map V.str) (zs.map PyData.str)
  | [] => .nil
  | z :: zs => .cons (.str z) (dpStrs zs)
theorem fit_name {z : Str} (h : nameS z = true) : Fit (.str z) := by
  unfold nameS at h
  rw [Bool.and_eq_true, Bool.and_eq_true, decide_eq_true_eq, decide_eq_true_eq, List.all_eq_true] at h
  refine fit_str ?_
  show PySem.PyData.canLay0 (.str z) = true
  unfold PySem.PyData.canLay0 PySem.PyData.strOk
  rw [← Array.all_toList, List.all_eq_true]
  intro c hc
  have := h.2.2 c hc
  unfold lowC at this
  rw [Bool.and_eq_true, decide_eq_true_eq, decide_eq_true_eq] at this
  exact decide_eq_true (by omega)
theorem shaped_names {zs : List Str} (h : ∀ z ∈ zs, nameS z = true) : SeqAt.shaped (.list (zs.map PyData.str)) = true := (fitL fun d hd => by
  obtain ⟨z, hz, rfl⟩ := List.mem_map.mp hd
  exact fit_name (h z hz)).1
/-- the table at t tells the rows c -/
theorem _root_.L2.FnOk.toR {P : Program} {w : World} {K : PySem.W.Frag} {mg : Str → Option Value} {base : Heap} {CX : CXT} {k : Nat} {f : Addr} {fd : FuncData} {ps : List Str} {sp : Sp} (F : FnOk P w K mg base CX k f fd ps sp) (hb : Binds K fd ps []) : FnR P w K mg base CX k f sp :=
  fun A outer s H us vs Q E hr e0 r h => by
    have KX : K.In s.heap := e0.mod.kin.keeps fun b o e => (e0.bs b o e).1
    have hl : us.length = ps.length := by rw [← r.length]; exact F.len _ _ _ _ h
    have z := hb s us KX (by rw [List.append_nil]; exact hl)
    rw [List.append_nil] at z
    exact F.run A outer s H ⟨us, []⟩ us vs Q E hr e0 z r h
theorem forRg {ta : TA} {g : TG} {tb : TS} {D : Ends} {σ : L2.St} {H : Hp} (m : Nat) (Pv : Nat → L2.St → Hp → Prop) (ht : ∀ R : List V → Hp → Prop, R [.int (m : Nat)] H → ta σ H R) (h1 : -(2 ^ 62) ≤ (m : Int)) (h2 : (m : Int) < 2 ^ 62) (h0 : Pv 0 σ H)
    (step : ∀ j σ H, j < m → Pv j σ H → g (.int (j : Nat)) σ H fun σ2 H2 => tb { D with nx := Pv (j + 1), ct := Pv (j + 1), bk := D.nx } σ2 H2) (fin : ∀ σ H, Pv m σ H → D.nx σ H) : tFor (iRng1 ta) g tb D σ H :=
  ht _ ⟨m, rfl, h1, h2, for_range Pv h0 (fun i σ' H' hi p => by rw [Int.zero_add]; exact step i σ' H' (by omega) p) (by rw [Int.toNat_natCast]; exact fin)⟩
section
variable {P : Program} {w : World} {K : PySem.W.Frag} {mg : Str → Option Value} {base : Heap} {tL t1 t2 : Tok}
def spRight : Sp := fun vs H Q _ => ∃ (d nl m : Nat) (zs : List Str), vs = [.ref d, .ref nl, .int (m : Nat)] ∧ RwAt H d zs m (fun z => doP z m) ∧ H nl = some (.lst (zs.map V.str)) ∧ zs.Nodup ∧ (∀ z ∈ zs, nameS z = true) ∧ zs.length ≤ 3 ∧ 1 ≤ m ∧ m ≤ 9 ∧ ∀ H', Kp [] H H' → Q (.bl true) H'
theorem ok_law_right {f : Addr} {fd : FuncData} (D : Df K mg "_law_right" s_law_right ["_law_rows", "_law_names_here", "_law_size"] f fd) (T : BtI mg) {fp : Addr} {fdp : FuncData} (D_law_is_pair : Df K mg "_law_is_pair" s_law_is_pair ["_law_told", "_law_due"] fp fdp) (G_law_is_pair : FnOk P w K mg base CX0 2 fp fdp ["_law_told", "_law_due"] spIsP)
    {fo : Addr} {fdo : FuncData} (D_law_do : Df K mg "_law_do" s_law_do ["_law_name", "_law_state", "_law_size"] fo fdo) (G_law_do : FnOk P w K mg base CX0 1 fo fdo ["_law_name", "_law_state", "_law_size"] spDo) : FnOk P w K mg base CX0 3 f fd ["_law_rows", "_law_names_here", "_law_size"] spRight := by
  refine D.F.ok sc_law_right (fun vs H Q E h => ?_) (fun cdv A outer s H vs Q E hr h => ?_)
  · obtain ⟨_, _, _, _, rfl, _⟩ := h
    rfl
  · obtain ⟨d, nl, m, zs, rfl, hd, hn, nd, nms, l3, m1, m9, q⟩ := h
    have hu := hu_of hr
    refine ⟨_, (pss_cons (ps_if (PW.pt (pw_or (pt_not (pt_val (pe_callB (id := "isinstance") (r := rIsi K) call_isi (by rfl) T.b_isinstance (by decide +kernel) (pa_cons (pv 0) (pa_cons (pe_bltn (v := .ty "dict") (by rfl) T.b_dict (by decide +kernel) rfl) pa_nil))))) (pw_or1 (pt_cmpR (op_neD hr.units) (pe_callTy (call_listD rfl) (by rfl) T.b_list (by decide +kernel) (pa_cons (pv 0) pa_nil)) (pv 1) (nomark _))))) (pss_one (ps_ret pe_bl)) pss_nil)
      (pss_cons (ps_for PassesOwn.never rfl (pi_list (pv 1)) (pg_name (i := 3) sc_law_right.nd rfl (Or.inl rfl)) (pss_cons (ps_set (i := 4) sc_law_right.nd rfl (Or.inl rfl) (pe_dget hu (pv 0) (pv 3) (fun _ _ => rfl)))
      (pss_cons (ps_if (PW.pt (pw_or (pt_not (pt_val (pe_callB (id := "isinstance") (r := rIsi K) call_isi (by rfl) T.b_isinstance (by decide +kernel) (pa_cons (pv 4) (pa_cons (pe_bltn (v := .ty "list") (by rfl) T.b_list (by decide +kernel) rfl) pa_nil))))) (pw_or1 (pt_cmpR op_ne (pe_callB (id := "len") (r := Evl.rLenS K) call_len_seq (by rfl) T.b_len PySem.boot_len (pa_cons (pv 4) pa_nil)) (pv 2) (nomark _))))) (pss_one (ps_ret pe_bl)) pss_nil)
      (pss_one (ps_for PassesOwn.never rfl (pi_range1 rfl T.b_range (pa_cons (pv 2) pa_nil)) (pg_name (i := 5) sc_law_right.nd rfl (Or.inl rfl)) (pss_one (ps_if (pt_not (pt_val (pe_call G_law_is_pair (hr.mono (by decide)) rfl D_law_is_pair.g D_law_is_pair.F.kp D_law_is_pair.b .nil pass0 (pa_cons (pe_ix (r := rIxL K) ix_list (pv 4) (pv 5) (fun _ _ => rfl)) (pa_cons (pe_call G_law_do (hr.mono (by decide)) rfl D_law_do.g D_law_do.F.kp D_law_do.b .nil pass0 (pa_cons (pv 3) (pa_cons (pv 5) (pa_cons (pv 2) pa_nil)))) pa_nil))))) (pss_one (ps_ret pe_bl)) pss_nil)))))))
      (pss_one (ps_ret pe_bl)))), ?_⟩
    try simp (maxSteps := 1000000) only [tSeq, tIfS, tTest, tOp, tUn, tCB, tCons, tNil, tVar, tC, rI0, rI, rU, rEq, rNe, tRet, tRetN, tAsg, gName, gSub, tBM, tBM0, tNext, tB, tNot, tAnd, tOr, tIf, tCall, tDrop, tBreak, tCont, L2.start, tDGet, sDPut, tTup, tLst, tDNewK, tRevL, rCat, rAppend, rPop, rSetL, tAndV, tOrV, tNotV, tSl, tPart, tNoPart, tM1, gTup, gCons, gNil, cxK, cxnK, List.map_cons, List.map_nil, List.length_cons, List.length_nil, List.replicate, List.cons_append, List.nil_append, List.append_nil, List.set_cons_zero, List.set_cons_succ, List.getElem?_cons_zero, List.getElem?_cons_succ, Option.some.injEq, V.ref.injEq, V.int.injEq, V.str.injEq, V.bl.injEq, V.ty.injEq, exists_eq_left', exists_eq_left, exists_and_left, List.cons.injEq, and_true, true_and, sc_ii, sc_ss, sc_bb, sc_ni, sc_in, sc_is, sc_si, sc_nn, decide_true, decide_false, reduceCtorEq, Bool.false_eq_true, if_true, if_false, ite_true, ite_false, exists_const, eq_self, false_and, and_false, or_false, false_or, exists_false, Evl.rLenS, rSum, wipe, tYes, exists_eq, exists_eq', rIxL, rIxT, rIxS, exists_and_right, gt_iff_lt, not_true_eq_false, not_false_eq_true, Bool.not_true, Bool.not_false, decide_eq_true_eq, Nat.reduceSub, Nat.reduceAdd, List.append_assoc, tChain, tDIn, tDNotIn, sDDel, tAug, ipI]
    obtain ⟨kvs0, hd0, _⟩ := id hd
    refine isi_mk (b := true) (.dK hd0) (by decide +kernel) ?_
    obtain ⟨kvs, hdk, hl, hv⟩ := id hd
    rw [hd0] at hdk
    cases hdk
    have hkeys : kvs0.map (·.1) = zs.map (fun z => (Sum.inr z : Key)) := RwAt.keys (P := fun _ _ _ => True) hl fun i z e => by
      obtain ⟨l, xs, e2, _⟩ := hv i z e
      exact ⟨_, e2, True.intro⟩
    have hks : kvs0.map (fun kv => kV kv.1) = zs.map V.str := by
      have := congrArg (List.map kV) hkeys
      rw [List.map_map, List.map_map] at this
      exact this
    try simp (maxSteps := 1000000) only [tSeq, tIfS, tTest, tOp, tUn, tCB, tCons, tNil, tVar, tC, rI0, rI, rU, rEq, rNe, tRet, tRetN, tAsg, gName, gSub, tBM, tBM0, tNext, tB, tNot, tAnd, tOr, tIf, tCall, tDrop, tBreak, tCont, L2.start, tDGet, sDPut, tTup, tLst, tDNewK, tRevL, rCat, rAppend, rPop, rSetL, tAndV, tOrV, tNotV, tSl, tPart, tNoPart, tM1, gTup, gCons, gNil, cxK, cxnK, List.map_cons, List.map_nil, List.length_cons, List.length_nil, List.replicate, List.cons_append, List.nil_append, List.append_nil, List.set_cons_zero, List.set_cons_succ, List.getElem?_cons_zero, List.getElem?_cons_succ, Option.some.injEq, V.ref.injEq, V.int.injEq, V.str.injEq, V.bl.injEq, V.ty.injEq, exists_eq_left', exists_eq_left, exists_and_left, List.cons.injEq, and_true, true_and, sc_ii, sc_ss, sc_bb, sc_ni, sc_in, sc_is, sc_si, sc_nn, decide_true, decide_false, reduceCtorEq, Bool.false_eq_true, if_true, if_false, ite_true, ite_false, exists_const, eq_self, false_and, and_false, or_false, false_or, exists_false, Evl.rLenS, rSum, wipe, tYes, exists_eq, exists_eq', rIxL, rIxT, rIxS, exists_and_right, gt_iff_lt, not_true_eq_false, not_false_eq_true, Bool.not_true, Bool.not_false, decide_eq_true_eq, Nat.reduceSub, Nat.reduceAdd, List.append_assoc, tChain, tDIn, tDNotIn, sDDel, tAug, ipI]
    refine ⟨kvs0, .inl hd0, fun p np => ?_⟩
    rw [hks]
    have k1 : Kp [] H (upd H p (.lst (zs.map V.str))) := Kp.new np
    generalize hH1 : upd H p (.lst (zs.map V.str)) = H1 at k1
    have hp : H1 p = some (.lst (zs.map V.str)) := by rw [← hH1]; exact upd_same
    have hn1 := k1 _ _ not0 hn
    have sh := shaped_names nms
    refine ⟨.list (zs.map PyData.str), .list (zs.map PyData.str), .lst (sq_l hp) (dpStrs zs), .lst (sq_l hn1) (dpStrs zs), sh, sh, ?_⟩
    rw [SeqAt.eqv_refl _ (SeqAt.canLay_of_shaped sh)]
    try simp (maxSteps := 1000000) only [tSeq, tIfS, tTest, tOp, tUn, tCB, tCons, tNil, tVar, tC, rI0, rI, rU, rEq, rNe, tRet, tRetN, tAsg, gName, gSub, tBM, tBM0, tNext, tB, tNot, tAnd, tOr, tIf, tCall, tDrop, tBreak, tCont, L2.start, tDGet, sDPut, tTup, tLst, tDNewK, tRevL, rCat, rAppend, rPop, rSetL, tAndV, tOrV, tNotV, tSl, tPart, tNoPart, tM1, gTup, gCons, gNil, cxK, cxnK, List.map_cons, List.map_nil, List.length_cons, List.length_nil, List.replicate, List.cons_append, List.nil_append, List.append_nil, List.set_cons_zero, List.set_cons_succ, List.getElem?_cons_zero, List.getElem?_cons_succ, Option.some.injEq, V.ref.injEq, V.int.injEq, V.str.injEq, V.bl.injEq, V.ty.injEq, exists_eq_left', exists_eq_left, exists_and_left, List.cons.injEq, and_true, true_and, sc_ii, sc_ss, sc_bb, sc_ni, sc_in, sc_is, sc_si, sc_nn, decide_true, decide_false, reduceCtorEq, Bool.false_eq_true, if_true, if_false, ite_true, ite_false, exists_const, eq_self, false_and, and_false, or_false, false_or, exists_false, Evl.rLenS, rSum, wipe, tYes, exists_eq, exists_eq', rIxL, rIxT, rIxS, exists_and_right, gt_iff_lt, not_true_eq_false, not_false_eq_true, Bool.not_true, Bool.not_false, decide_eq_true_eq, Nat.reduceSub, Nat.reduceAdd, List.append_assoc, tChain, tDIn, tDNotIn, sDDel, tAug, ipI]
    refine ⟨.ref nl, rfl, nl, rfl, ⟨_, sq_l hn1⟩, for_list (K := K) (a := nl) (xs := zs.map V.str) (fun i σ H' => ∃ c3 c4 c5, σ = [some (.ref d), some (.ref nl), some (.int (m : Nat)), c3, c4, c5] ∧ Kp [] H H') ⟨_, _, _, rfl, k1⟩ (fun i σ H' _ h => by obtain ⟨_, _, _, _, k⟩ := h; exact k.ls not0 (sq_l hn)) ?_ ?_⟩
    · rintro i x σ H2 hx ⟨c3, c4, c5, rfl, k2⟩
      obtain ⟨z, ez, rfl⟩ : ∃ z, zs[i]? = some z ∧ V.str z = x := by
        rw [List.getElem?_map] at hx
        cases e : zs[i]? with
        | none => rw [e] at hx; cases hx
        | some z => rw [e] at hx; exact ⟨z, rfl, Option.some.inj hx⟩
      have hz := List.mem_of_getElem? ez
      obtain ⟨kv3, l3, xs3, hd3, ev3, hl3, hc3⟩ := (hd.kp k2).get nd hz
      try simp (maxSteps := 1000000) only [tSeq, tIfS, tTest, tOp, tUn, tCB, tCons, tNil, tVar, tC, rI0, rI, rU, rEq, rNe, tRet, tRetN, tAsg, gName, gSub, tBM, tBM0, tNext, tB, tNot, tAnd, tOr, tIf, tCall, tDrop, tBreak, tCont, L2.start, tDGet, sDPut, tTup, tLst, tDNewK, tRevL, rCat, rAppend, rPop, rSetL, tAndV, tOrV, tNotV, tSl, tPart, tNoPart, tM1, gTup, gCons, gNil, cxK, cxnK, List.map_cons, List.map_nil, List.length_cons, List.length_nil, List.replicate, List.cons_append, List.nil_append, List.append_nil, List.set_cons_zero, List.set_cons_succ, List.getElem?_cons_zero, List.getElem?_cons_succ, Option.some.injEq, V.ref.injEq, V.int.injEq, V.str.injEq, V.bl.injEq, V.ty.injEq, exists_eq_left', exists_eq_left, exists_and_left, List.cons.injEq, and_true, true_and, sc_ii, sc_ss, sc_bb, sc_ni, sc_in, sc_is, sc_si, sc_nn, decide_true, decide_false, reduceCtorEq, Bool.false_eq_true, if_true, if_false, ite_true, ite_false, exists_const, eq_self, false_and, and_false, or_false, false_or, exists_false, Evl.rLenS, rSum, wipe, tYes, exists_eq, exists_eq', rIxL, rIxT, rIxS, exists_and_right, gt_iff_lt, not_true_eq_false, not_false_eq_true, Bool.not_true, Bool.not_false, decide_eq_true_eq, Nat.reduceSub, Nat.reduceAdd, List.append_assoc, tChain, tDIn, tDNotIn, sDDel, tAug, ipI]
      refine ⟨.ref l3, .inl ⟨kv3, Sum.inr z, .inl hd3, rfl, ev3.symm⟩, isi_mk (b := true) (.lst hl3) (by decide +kernel) ?_⟩
      try simp (maxSteps := 1000000) only [tSeq, tIfS, tTest, tOp, tUn, tCB, tCons, tNil, tVar, tC, rI0, rI, rU, rEq, rNe, tRet, tRetN, tAsg, gName, gSub, tBM, tBM0, tNext, tB, tNot, tAnd, tOr, tIf, tCall, tDrop, tBreak, tCont, L2.start, tDGet, sDPut, tTup, tLst, tDNewK, tRevL, rCat, rAppend, rPop, rSetL, tAndV, tOrV, tNotV, tSl, tPart, tNoPart, tM1, gTup, gCons, gNil, cxK, cxnK, List.map_cons, List.map_nil, List.length_cons, List.length_nil, List.replicate, List.cons_append, List.nil_append, List.append_nil, List.set_cons_zero, List.set_cons_succ, List.getElem?_cons_zero, List.getElem?_cons_succ, Option.some.injEq, V.ref.injEq, V.int.injEq, V.str.injEq, V.bl.injEq, V.ty.injEq, exists_eq_left', exists_eq_left, exists_and_left, List.cons.injEq, and_true, true_and, sc_ii, sc_ss, sc_bb, sc_ni, sc_in, sc_is, sc_si, sc_nn, decide_true, decide_false, reduceCtorEq, Bool.false_eq_true, if_true, if_false, ite_true, ite_false, exists_const, eq_self, false_and, and_false, or_false, false_or, exists_false, Evl.rLenS, rSum, wipe, tYes, exists_eq, exists_eq', rIxL, rIxT, rIxS, exists_and_right, gt_iff_lt, not_true_eq_false, not_false_eq_true, Bool.not_true, Bool.not_false, decide_eq_true_eq, Nat.reduceSub, Nat.reduceAdd, List.append_assoc, tChain, tDIn, tDNotIn, sDDel, tAug, ipI]
      refine ⟨xs3, .inl (sq_l hl3), ?_⟩
      rw [hc3.1, decide_eq_true rfl]
      try simp (maxSteps := 1000000) only [tSeq, tIfS, tTest, tOp, tUn, tCB, tCons, tNil, tVar, tC, rI0, rI, rU, rEq, rNe, tRet, tRetN, tAsg, gName, gSub, tBM, tBM0, tNext, tB, tNot, tAnd, tOr, tIf, tCall, tDrop, tBreak, tCont, L2.start, tDGet, sDPut, tTup, tLst, tDNewK, tRevL, rCat, rAppend, rPop, rSetL, tAndV, tOrV, tNotV, tSl, tPart, tNoPart, tM1, gTup, gCons, gNil, cxK, cxnK, List.map_cons, List.map_nil, List.length_cons, List.length_nil, List.replicate, List.cons_append, List.nil_append, List.append_nil, List.set_cons_zero, List.set_cons_succ, List.getElem?_cons_zero, List.getElem?_cons_succ, Option.some.injEq, V.ref.injEq, V.int.injEq, V.str.injEq, V.bl.injEq, V.ty.injEq, exists_eq_left', exists_eq_left, exists_and_left, List.cons.injEq, and_true, true_and, sc_ii, sc_ss, sc_bb, sc_ni, sc_in, sc_is, sc_si, sc_nn, decide_true, decide_false, reduceCtorEq, Bool.false_eq_true, if_true, if_false, ite_true, ite_false, exists_const, eq_self, false_and, and_false, or_false, false_or, exists_false, Evl.rLenS, rSum, wipe, tYes, exists_eq, exists_eq', rIxL, rIxT, rIxS, exists_and_right, gt_iff_lt, not_true_eq_false, not_false_eq_true, Bool.not_true, Bool.not_false, decide_eq_true_eq, Nat.reduceSub, Nat.reduceAdd, List.append_assoc, tChain, tDIn, tDNotIn, sDDel, tAug, ipI]
      refine forRg m (fun j σ H' => ∃ c5, σ = [some (.ref d), some (.ref nl), some (.int (m : Nat)), some (.str z), some (.ref l3), c5] ∧ Kp [] H2 H') ?_ (by omega) (by omega) ⟨_, rfl, Kp.refl _ _⟩ ?_ ?_
      · intro R q'
        exact ⟨_, rfl, q'⟩
      · rintro j σ H3 hj ⟨c5, rfl, k3⟩
        obtain ⟨p2, e2, hp2⟩ := hc3.2 j hj
        try simp (maxSteps := 1000000) only [tSeq, tIfS, tTest, tOp, tUn, tCB, tCons, tNil, tVar, tC, rI0, rI, rU, rEq, rNe, tRet, tRetN, tAsg, gName, gSub, tBM, tBM0, tNext, tB, tNot, tAnd, tOr, tIf, tCall, tDrop, tBreak, tCont, L2.start, tDGet, sDPut, tTup, tLst, tDNewK, tRevL, rCat, rAppend, rPop, rSetL, tAndV, tOrV, tNotV, tSl, tPart, tNoPart, tM1, gTup, gCons, gNil, cxK, cxnK, List.map_cons, List.map_nil, List.length_cons, List.length_nil, List.replicate, List.cons_append, List.nil_append, List.append_nil, List.set_cons_zero, List.set_cons_succ, List.getElem?_cons_zero, List.getElem?_cons_succ, Option.some.injEq, V.ref.injEq, V.int.injEq, V.str.injEq, V.bl.injEq, V.ty.injEq, exists_eq_left', exists_eq_left, exists_and_left, List.cons.injEq, and_true, true_and, sc_ii, sc_ss, sc_bb, sc_ni, sc_in, sc_is, sc_si, sc_nn, decide_true, decide_false, reduceCtorEq, Bool.false_eq_true, if_true, if_false, ite_true, ite_false, exists_const, eq_self, false_and, and_false, or_false, false_or, exists_false, Evl.rLenS, rSum, wipe, tYes, exists_eq, exists_eq', rIxL, rIxT, rIxS, exists_and_right, gt_iff_lt, not_true_eq_false, not_false_eq_true, Bool.not_true, Bool.not_false, decide_eq_true_eq, Nat.reduceSub, Nat.reduceAdd, List.append_assoc, tChain, tDIn, tDNotIn, sDDel, tAug, ipI]
        refine ⟨xs3, sq_l (k3 _ _ not0 hl3), .ref p2, atI_nat e2, z, j, m, rfl, hj, fun p4 H4 hp4 k4 => ?_⟩
        refine ⟨p2, p4, _, _, rfl, k4 _ _ not0 (k3 _ _ not0 hp2), hp4, ?_⟩
        try simp (maxSteps := 1000000) only [tSeq, tIfS, tTest, tOp, tUn, tCB, tCons, tNil, tVar, tC, rI0, rI, rU, rEq, rNe, tRet, tRetN, tAsg, gName, gSub, tBM, tBM0, tNext, tB, tNot, tAnd, tOr, tIf, tCall, tDrop, tBreak, tCont, L2.start, tDGet, sDPut, tTup, tLst, tDNewK, tRevL, rCat, rAppend, rPop, rSetL, tAndV, tOrV, tNotV, tSl, tPart, tNoPart, tM1, gTup, gCons, gNil, cxK, cxnK, List.map_cons, List.map_nil, List.length_cons, List.length_nil, List.replicate, List.cons_append, List.nil_append, List.append_nil, List.set_cons_zero, List.set_cons_succ, List.getElem?_cons_zero, List.getElem?_cons_succ, Option.some.injEq, V.ref.injEq, V.int.injEq, V.str.injEq, V.bl.injEq, V.ty.injEq, exists_eq_left', exists_eq_left, exists_and_left, List.cons.injEq, and_true, true_and, sc_ii, sc_ss, sc_bb, sc_ni, sc_in, sc_is, sc_si, sc_nn, decide_true, decide_false, reduceCtorEq, Bool.false_eq_true, if_true, if_false, ite_true, ite_false, exists_const, eq_self, false_and, and_false, or_false, false_or, exists_false, Evl.rLenS, rSum, wipe, tYes, exists_eq, exists_eq', rIxL, rIxT, rIxS, exists_and_right, gt_iff_lt, not_true_eq_false, not_false_eq_true, Bool.not_true, Bool.not_false, decide_eq_true_eq, Nat.reduceSub, Nat.reduceAdd, List.append_assoc, tChain, tDIn, tDNotIn, sDDel, tAug, ipI]
        exact k3.trans k4
      · rintro σ H3 ⟨c5, rfl, k3⟩
        exact ⟨⟨_, _, _, rfl⟩, k2.trans k3⟩
    · rintro σ H2 ⟨c3, c4, c5, rfl, k2⟩
      try simp (maxSteps := 1000000) only [tSeq, tIfS, tTest, tOp, tUn, tCB, tCons, tNil, tVar, tC, rI0, rI, rU, rEq, rNe, tRet, tRetN, tAsg, gName, gSub, tBM, tBM0, tNext, tB, tNot, tAnd, tOr, tIf, tCall, tDrop, tBreak, tCont, L2.start, tDGet, sDPut, tTup, tLst, tDNewK, tRevL, rCat, rAppend, rPop, rSetL, tAndV, tOrV, tNotV, tSl, tPart, tNoPart, tM1, gTup, gCons, gNil, cxK, cxnK, List.map_cons, List.map_nil, List.length_cons, List.length_nil, List.replicate, List.cons_append, List.nil_append, List.append_nil, List.set_cons_zero, List.set_cons_succ, List.getElem?_cons_zero, List.getElem?_cons_succ, Option.some.injEq, V.ref.injEq, V.int.injEq, V.str.injEq, V.bl.injEq, V.ty.injEq, exists_eq_left', exists_eq_left, exists_and_left, List.cons.injEq, and_true, true_and, sc_ii, sc_ss, sc_bb, sc_ni, sc_in, sc_is, sc_si, sc_nn, decide_true, decide_false, reduceCtorEq, Bool.false_eq_true, if_true, if_false, ite_true, ite_false, exists_const, eq_self, false_and, and_false, or_false, false_or, exists_false, Evl.rLenS, rSum, wipe, tYes, exists_eq, exists_eq', rIxL, rIxT, rIxS, exists_and_right, gt_iff_lt, not_true_eq_false, not_false_eq_true, Bool.not_true, Bool.not_false, decide_eq_true_eq, Nat.reduceSub, Nat.reduceAdd, List.append_assoc, tChain, tDIn, tDNotIn, sDDel, tAug, ipI]
      exact q H2 k2
theorem walk_at {c : Str → Nat → Int × Int} : ∀ {cs : List Str} {s : Int} {j : Nat} {z : Str}, cs[j]? = some z → (walkC c s cs)[j]? = some (c z (stateC c s (cs.take j)).toNat).1
  | y :: r, s, 0, z, h => by
    have : y = z := Option.some.inj h
    rw [this]; rfl
  | y :: r, s, j + 1, z, h => walk_at (cs := r) (s := (c y s.toNat).2) (j := j) h
theorem stateC_at {c : Str → Nat → Int × Int} {cs : List Str} {s : Int} {j : Nat} {z : Str} (h : cs[j]? = some z) : stateC c s (cs.take (j + 1)) = (c z (stateC c s (cs.take j)).toNat).2 := by
  rw [take_snoc h]
  exact (walkC_snoc c s (cs.take j) z).2
def spTbl (TC : Addr) : Sp := fun vs H Q _ => ∃ (t nl cl m : Nat) (zs cs : List Str), vs = [.ref t, .ref nl, .int (m : Nat), .ref cl] ∧ TabIs TC H t zs m 0 (fun z => doP z m) ∧ H nl = some (.lst (zs.map V.str)) ∧ zs.length ≤ 3 ∧ 1 ≤ m ∧ m ≤ 9 ∧ H cl = some (.lst (cs.map V.str)) ∧ cs.length ≤ 1000 ∧ (∀ z ∈ cs, z ∈ zs) ∧ ∀ H', Kp [] H H' → Q (.bl true) H'
theorem ok_law_table {f : Addr} {fd : FuncData} (D : Df K mg "_law_table" s_law_table ["_law_table_here", "_law_names_here", "_law_size", "_law_calls"] f fd) (T : BtI mg) {TC NO BN fN fC fA : Addr} {fdN fdC fdA : FuncData} (C : TbC K mg TC) {fp : Addr} {fdp : FuncData} (D_law_is_pair : Df K mg "_law_is_pair" s_law_is_pair ["_law_told", "_law_due"] fp fdp) (G_law_is_pair : FnOk P w K mg base CX0 2 fp fdp ["_law_told", "_law_due"] spIsP)
    {fo : Addr} {fdo : FuncData} (D_law_do : Df K mg "_law_do" s_law_do ["_law_name", "_law_state", "_law_size"] fo fdo) (G_law_do : FnOk P w K mg base CX0 1 fo fdo ["_law_name", "_law_state", "_law_size"] spDo) {fw : Addr} {fdw : FuncData} (D_law_is_whole : Df K mg "_law_is_whole" s_law_is_whole ["_law_told", "_law_due"] fw fdw) (G_law_is_whole : FnOk P w K mg base CX0 1 fw fdw ["_law_told", "_law_due"] spWhole)
    (ME_Table_names : Meth K TC "names" fN) (bM_Table_names : Binds K fdN ["self"] []) (G_Table_names : FnOk P w K mg base CX0 1 fN fdN ["self"] (spTN TC))
    (CO_Table : CallO K TC fC) (bC_Table : Binds K fdC ["self", "name", "state"] []) (G_Table_call0 : FnOk P w K mg base (L2.CX P w) 4 fC fdC ["self", "name", "state"] (spTCall TC NO BN))
    (ME_Table_answers : Meth K TC "answers" fA) (bM_Table_answers : Binds K fdA ["self", "calls"] []) (G_Table_answers : FnOk P w K mg base (L2.CX P w) 4 fA fdA ["self", "calls"] (spTA TC NO)) : FnOk P w K mg base CX0 6 f fd ["_law_table_here", "_law_names_here", "_law_size", "_law_calls"] (spTbl TC) := by
  refine D.F.ok sc_law_table (fun vs H Q E h => ?_) (fun cdv A outer s H vs Q E hr h => ?_)
  · obtain ⟨_, _, _, _, _, _, rfl, _⟩ := h
    rfl
  · obtain ⟨t, nl, cl, m, zs, cs, rfl, ⟨rs, hT, en, hcc⟩, hn, l3, m1, m9, hcl, c1, hz, q⟩ := h
    have hu := hu_of hr
    have G_Table_call := G_Table_call0.toR bC_Table
    refine ⟨_, (pss_cons (ps_set (i := 4) sc_law_table.nd rfl (Or.inl rfl) (pe_meth0 (pv 0) C.cl ME_Table_names G_Table_names (hr.mono (by decide)) bM_Table_names .nil pass0))
      (pss_cons (ps_if (PW.pt (pw_or (pt_not (pt_val (pe_callB (id := "isinstance") (r := rIsi K) call_isi (by rfl) T.b_isinstance (by decide +kernel) (pa_cons (pv 4) (pa_cons (pe_bltn (v := .ty "list") (by rfl) T.b_list (by decide +kernel) rfl) pa_nil))))) (pw_or1 (pt_cmpR (op_neD hr.units) (pv 4) (pv 1) (nomark _))))) (pss_one (ps_ret pe_bl)) pss_nil)
      (pss_cons (ps_if (PW.pt (pw_or (pt_not (pt_val (pe_call (k := 1) G_law_is_whole (hr.mono (by decide)) rfl D_law_is_whole.g D_law_is_whole.F.kp D_law_is_whole.b .nil pass0 (pa_cons (pe_fld (pv 0) rfl) (pa_cons (pv 2) pa_nil))))) (pw_or1 (pt_not (pt_val (pe_call (k := 1) G_law_is_whole (hr.mono (by decide)) rfl D_law_is_whole.g D_law_is_whole.F.kp D_law_is_whole.b .nil pass0 (pa_cons (pe_fld (pv 0) rfl) (pa_cons pe_int pa_nil)))))))) (pss_one (ps_ret pe_bl)) pss_nil)
      (pss_cons (ps_for PassesOwn.never rfl (pi_list (pv 1)) (pg_name (i := 5) sc_law_table.nd rfl (Or.inl rfl)) (pss_one (ps_for PassesOwn.never rfl (pi_range1 rfl T.b_range (pa_cons (pv 2) pa_nil)) (pg_name (i := 6) sc_law_table.nd rfl (Or.inl rfl)) (pss_one (ps_if (pt_not (pt_val (pe_call G_law_is_pair (hr.mono (by decide)) rfl D_law_is_pair.g D_law_is_pair.F.kp D_law_is_pair.b .nil pass0 (pa_cons (pe_callO (pv 0) CO_Table G_Table_call (hr.mono (by decide)) passL (pa_cons (pv 5) (pa_cons (pv 6) pa_nil))) (pa_cons (pe_call G_law_do (hr.mono (by decide)) rfl D_law_do.g D_law_do.F.kp D_law_do.b .nil pass0 (pa_cons (pv 5) (pa_cons (pv 6) (pa_cons (pv 2) pa_nil)))) pa_nil))))) (pss_one (ps_ret pe_bl)) pss_nil)))))
      (pss_cons (ps_set (i := 7) sc_law_table.nd rfl (Or.inl rfl) (pe_meth (pv 0) C.cl ME_Table_answers G_Table_answers (hr.mono (by decide)) bM_Table_answers .nil passL (pa_cons (pe_callTy call_list_of (by rfl) T.b_list (by decide +kernel) (pa_cons (pv 3) pa_nil)) pa_nil)))
      (pss_cons (ps_if (PW.pt (pw_or (pt_not (pt_val (pe_callB (id := "isinstance") (r := rIsi K) call_isi (by rfl) T.b_isinstance (by decide +kernel) (pa_cons (pv 7) (pa_cons (pe_bltn (v := .ty "list") (by rfl) T.b_list (by decide +kernel) rfl) pa_nil))))) (pw_or1 (pt_cmpR op_ne (pe_callB (id := "len") (r := Evl.rLenS K) call_len_seq (by rfl) T.b_len PySem.boot_len (pa_cons (pv 7) pa_nil)) (pe_callB (id := "len") (r := Evl.rLenS K) call_len_seq (by rfl) T.b_len PySem.boot_len (pa_cons (pv 3) pa_nil)) (nomark _))))) (pss_one (ps_ret pe_bl)) pss_nil)
      (pss_cons (ps_set (i := 6) sc_law_table.nd rfl (Or.inl rfl) pe_int)
      (pss_cons (ps_for PassesOwn.never rfl (pi_range1 rfl T.b_range (pa_cons (pe_callB (id := "len") (r := Evl.rLenS K) call_len_seq (by rfl) T.b_len PySem.boot_len (pa_cons (pv 3) pa_nil)) pa_nil)) (pg_name (i := 8) sc_law_table.nd rfl (Or.inl rfl)) (pss_cons (ps_set (i := 9) sc_law_table.nd rfl (Or.inl rfl) (pe_call G_law_do (hr.mono (by decide)) rfl D_law_do.g D_law_do.F.kp D_law_do.b .nil pass0 (pa_cons (pe_ix (r := rIxL K) ix_list (pv 3) (pv 8) (fun _ _ => rfl)) (pa_cons (pv 6) (pa_cons (pv 2) pa_nil)))))
      (pss_cons (ps_if (pt_not (pt_val (pe_call (k := 1) G_law_is_whole (hr.mono (by decide)) rfl D_law_is_whole.g D_law_is_whole.F.kp D_law_is_whole.b .nil pass0 (pa_cons (pe_ix (r := rIxL K) ix_list (pv 7) (pv 8) (fun _ _ => rfl)) (pa_cons (pe_ix (r := rIxT K) ix_tup (pv 9) pe_int (fun _ _ => rfl)) pa_nil))))) (pss_one (ps_ret pe_bl)) pss_nil)
      (pss_one (ps_set (i := 6) sc_law_table.nd rfl (Or.inl rfl) (pe_ix (r := rIxT K) ix_tup (pv 9) pe_int (fun _ _ => rfl)))))))
      (pss_one (ps_ret pe_bl)))))))))), ?_⟩
    try simp (maxSteps := 1000000) only [tSeq, tIfS, tTest, tOp, tUn, tCB, tCons, tNil, tVar, tC, rI0, rI, rU, rEq, rNe, tRet, tRetN, tAsg, gName, gSub, tBM, tBM0, tNext, tB, tNot, tAnd, tOr, tIf, tCall, tDrop, tBreak, tCont, L2.start, tDGet, sDPut, tTup, tLst, tDNewK, tRevL, rCat, rAppend, rPop, rSetL, tAndV, tOrV, tNotV, tSl, tPart, tNoPart, tM1, gTup, gCons, gNil, cxK, cxnK, List.map_cons, List.map_nil, List.length_cons, List.length_nil, List.replicate, List.cons_append, List.nil_append, List.append_nil, List.set_cons_zero, List.set_cons_succ, List.getElem?_cons_zero, List.getElem?_cons_succ, Option.some.injEq, V.ref.injEq, V.int.injEq, V.str.injEq, V.bl.injEq, V.ty.injEq, exists_eq_left', exists_eq_left, exists_and_left, List.cons.injEq, and_true, true_and, sc_ii, sc_ss, sc_bb, sc_ni, sc_in, sc_is, sc_si, sc_nn, decide_true, decide_false, reduceCtorEq, Bool.false_eq_true, if_true, if_false, ite_true, ite_false, exists_const, eq_self, false_and, and_false, or_false, false_or, exists_false, Evl.rLenS, rSum, wipe, tYes, exists_eq, exists_eq', rIxL, rIxT, rIxS, exists_and_right, gt_iff_lt, not_true_eq_false, not_false_eq_true, Bool.not_true, Bool.not_false, decide_eq_true_eq, Nat.reduceSub, Nat.reduceAdd, List.append_assoc, tChain, tDIn, tDNotIn, sDDel, tAug, ipI, tMeth, tFld]
    have bT := hT.bnd
    have nms : ∀ z ∈ zs, nameS z = true := by rw [← en]; exact bT.2.2.1
    have en' : rs.map (·.1) = zs := en
    obtain ⟨dx, dd, ho⟩ := hT.head
    have sh := shaped_names nms
    refine ⟨dx, _, ho, rfl, t, m, 0, rs, rfl, hT, fun nn H1 nnn hnn k1 => ?_⟩
    rw [en'] at hnn
    refine isi_mk (b := true) (.lst hnn) (by decide +kernel) ?_
    try simp (maxSteps := 1000000) only [tSeq, tIfS, tTest, tOp, tUn, tCB, tCons, tNil, tVar, tC, rI0, rI, rU, rEq, rNe, tRet, tRetN, tAsg, gName, gSub, tBM, tBM0, tNext, tB, tNot, tAnd, tOr, tIf, tCall, tDrop, tBreak, tCont, L2.start, tDGet, sDPut, tTup, tLst, tDNewK, tRevL, rCat, rAppend, rPop, rSetL, tAndV, tOrV, tNotV, tSl, tPart, tNoPart, tM1, gTup, gCons, gNil, cxK, cxnK, List.map_cons, List.map_nil, List.length_cons, List.length_nil, List.replicate, List.cons_append, List.nil_append, List.append_nil, List.set_cons_zero, List.set_cons_succ, List.getElem?_cons_zero, List.getElem?_cons_succ, Option.some.injEq, V.ref.injEq, V.int.injEq, V.str.injEq, V.bl.injEq, V.ty.injEq, exists_eq_left', exists_eq_left, exists_and_left, List.cons.injEq, and_true, true_and, sc_ii, sc_ss, sc_bb, sc_ni, sc_in, sc_is, sc_si, sc_nn, decide_true, decide_false, reduceCtorEq, Bool.false_eq_true, if_true, if_false, ite_true, ite_false, exists_const, eq_self, false_and, and_false, or_false, false_or, exists_false, Evl.rLenS, rSum, wipe, tYes, exists_eq, exists_eq', rIxL, rIxT, rIxS, exists_and_right, gt_iff_lt, not_true_eq_false, not_false_eq_true, Bool.not_true, Bool.not_false, decide_eq_true_eq, Nat.reduceSub, Nat.reduceAdd, List.append_assoc, tChain, tDIn, tDNotIn, sDDel, tAug, ipI]
    have hn1 := k1 _ _ not0 hn
    refine ⟨.list (zs.map PyData.str), .list (zs.map PyData.str), .lst (sq_l hnn) (dpStrs zs), .lst (sq_l hn1) (dpStrs zs), sh, sh, ?_⟩
    rw [SeqAt.eqv_refl _ (SeqAt.canLay_of_shaped sh)]
    try simp (maxSteps := 1000000) only [tSeq, tIfS, tTest, tOp, tUn, tCB, tCons, tNil, tVar, tC, rI0, rI, rU, rEq, rNe, tRet, tRetN, tAsg, gName, gSub, tBM, tBM0, tNext, tB, tNot, tAnd, tOr, tIf, tCall, tDrop, tBreak, tCont, L2.start, tDGet, sDPut, tTup, tLst, tDNewK, tRevL, rCat, rAppend, rPop, rSetL, tAndV, tOrV, tNotV, tSl, tPart, tNoPart, tM1, gTup, gCons, gNil, cxK, cxnK, List.map_cons, List.map_nil, List.length_cons, List.length_nil, List.replicate, List.cons_append, List.nil_append, List.append_nil, List.set_cons_zero, List.set_cons_succ, List.getElem?_cons_zero, List.getElem?_cons_succ, Option.some.injEq, V.ref.injEq, V.int.injEq, V.str.injEq, V.bl.injEq, V.ty.injEq, exists_eq_left', exists_eq_left, exists_and_left, List.cons.injEq, and_true, true_and, sc_ii, sc_ss, sc_bb, sc_ni, sc_in, sc_is, sc_si, sc_nn, decide_true, decide_false, reduceCtorEq, Bool.false_eq_true, if_true, if_false, ite_true, ite_false, exists_const, eq_self, false_and, and_false, or_false, false_or, exists_false, Evl.rLenS, rSum, wipe, tYes, exists_eq, exists_eq', rIxL, rIxT, rIxS, exists_and_right, gt_iff_lt, not_true_eq_false, not_false_eq_true, Bool.not_true, Bool.not_false, decide_eq_true_eq, Nat.reduceSub, Nat.reduceAdd, List.append_assoc, tChain, tDIn, tDNotIn, sDDel, tAug, ipI]
    have ho1 := k1 _ _ not0 ho
    refine ⟨TC, dx, _, ho1, C.cl, C.n1, _, rfl, (m : Nat), (m : Nat), rfl, ?_⟩
    rw [decide_eq_true rfl]
    try simp (maxSteps := 1000000) only [tSeq, tIfS, tTest, tOp, tUn, tCB, tCons, tNil, tVar, tC, rI0, rI, rU, rEq, rNe, tRet, tRetN, tAsg, gName, gSub, tBM, tBM0, tNext, tB, tNot, tAnd, tOr, tIf, tCall, tDrop, tBreak, tCont, L2.start, tDGet, sDPut, tTup, tLst, tDNewK, tRevL, rCat, rAppend, rPop, rSetL, tAndV, tOrV, tNotV, tSl, tPart, tNoPart, tM1, gTup, gCons, gNil, cxK, cxnK, List.map_cons, List.map_nil, List.length_cons, List.length_nil, List.replicate, List.cons_append, List.nil_append, List.append_nil, List.set_cons_zero, List.set_cons_succ, List.getElem?_cons_zero, List.getElem?_cons_succ, Option.some.injEq, V.ref.injEq, V.int.injEq, V.str.injEq, V.bl.injEq, V.ty.injEq, exists_eq_left', exists_eq_left, exists_and_left, List.cons.injEq, and_true, true_and, sc_ii, sc_ss, sc_bb, sc_ni, sc_in, sc_is, sc_si, sc_nn, decide_true, decide_false, reduceCtorEq, Bool.false_eq_true, if_true, if_false, ite_true, ite_false, exists_const, eq_self, false_and, and_false, or_false, false_or, exists_false, Evl.rLenS, rSum, wipe, tYes, exists_eq, exists_eq', rIxL, rIxT, rIxS, exists_and_right, gt_iff_lt, not_true_eq_false, not_false_eq_true, Bool.not_true, Bool.not_false, decide_eq_true_eq, Nat.reduceSub, Nat.reduceAdd, List.append_assoc, tChain, tDIn, tDNotIn, sDDel, tAug, ipI]
    refine ⟨TC, dx, _, ho1, C.cl, C.n2, _, rfl, 0, 0, rfl, ?_⟩
    rw [decide_eq_true rfl]
    try simp (maxSteps := 1000000) only [tSeq, tIfS, tTest, tOp, tUn, tCB, tCons, tNil, tVar, tC, rI0, rI, rU, rEq, rNe, tRet, tRetN, tAsg, gName, gSub, tBM, tBM0, tNext, tB, tNot, tAnd, tOr, tIf, tCall, tDrop, tBreak, tCont, L2.start, tDGet, sDPut, tTup, tLst, tDNewK, tRevL, rCat, rAppend, rPop, rSetL, tAndV, tOrV, tNotV, tSl, tPart, tNoPart, tM1, gTup, gCons, gNil, cxK, cxnK, List.map_cons, List.map_nil, List.length_cons, List.length_nil, List.replicate, List.cons_append, List.nil_append, List.append_nil, List.set_cons_zero, List.set_cons_succ, List.getElem?_cons_zero, List.getElem?_cons_succ, Option.some.injEq, V.ref.injEq, V.int.injEq, V.str.injEq, V.bl.injEq, V.ty.injEq, exists_eq_left', exists_eq_left, exists_and_left, List.cons.injEq, and_true, true_and, sc_ii, sc_ss, sc_bb, sc_ni, sc_in, sc_is, sc_si, sc_nn, decide_true, decide_false, reduceCtorEq, Bool.false_eq_true, if_true, if_false, ite_true, ite_false, exists_const, eq_self, false_and, and_false, or_false, false_or, exists_false, Evl.rLenS, rSum, wipe, tYes, exists_eq, exists_eq', rIxL, rIxT, rIxS, exists_and_right, gt_iff_lt, not_true_eq_false, not_false_eq_true, Bool.not_true, Bool.not_false, decide_eq_true_eq, Nat.reduceSub, Nat.reduceAdd, List.append_assoc, tChain, tDIn, tDNotIn, sDDel, tAug, ipI]
    refine ⟨.ref nl, rfl, nl, rfl, ⟨_, sq_l hn1⟩, for_list (K := K) (a := nl) (xs := zs.map V.str) (fun i σ H' => ∃ c5 c6 c7 c8 c9, σ = [some (.ref t), some (.ref nl), some (.int (m : Nat)), some (.ref cl), some (.ref nn), c5, c6, c7, c8, c9] ∧ Kp [] H H') ⟨_, _, _, _, _, rfl, k1⟩ (fun i σ H' _ h => by obtain ⟨_, _, _, _, _, _, k⟩ := h; exact k.ls not0 (sq_l hn)) ?_ ?_⟩
    · rintro i x σ H2 hx ⟨c5, c6, c7, c8, c9, rfl, k2⟩
      obtain ⟨z, ez, rfl⟩ : ∃ z, zs[i]? = some z ∧ V.str z = x := by
        rw [List.getElem?_map] at hx
        cases e : zs[i]? with
        | none => rw [e] at hx; cases hx
        | some z => rw [e] at hx; exact ⟨z, rfl, Option.some.inj hx⟩
      have hz := List.mem_of_getElem? ez
      have hasT : hasD rs (.str z) = true := by
        show (nameS z && decide (z ∈ rs.map (·.1))) = true
        rw [nms z hz, en', decide_eq_true hz]; rfl
      have szz : szD (.str z) = true := decide_eq_true (name8 (nms z hz))
      refine forRg m (fun j σ H' => ∃ c6 c7 c8 c9, σ = [some (.ref t), some (.ref nl), some (.int (m : Nat)), some (.ref cl), some (.ref nn), some (.str z), c6, c7, c8, c9] ∧ Kp [] H H') ?_ (by omega) (by omega) ⟨_, _, _, _, rfl, k2⟩ ?_ ?_
      · intro R q'
        exact ⟨_, rfl, q'⟩
      · rintro j σ H3 hj ⟨c6, c7, c8, c9, rfl, k3⟩
        try simp (maxSteps := 1000000) only [tSeq, tIfS, tTest, tOp, tUn, tCB, tCons, tNil, tVar, tC, rI0, rI, rU, rEq, rNe, tRet, tRetN, tAsg, gName, gSub, tBM, tBM0, tNext, tB, tNot, tAnd, tOr, tIf, tCall, tDrop, tBreak, tCont, L2.start, tDGet, sDPut, tTup, tLst, tDNewK, tRevL, rCat, rAppend, rPop, rSetL, tAndV, tOrV, tNotV, tSl, tPart, tNoPart, tM1, gTup, gCons, gNil, cxK, cxnK, List.map_cons, List.map_nil, List.length_cons, List.length_nil, List.replicate, List.cons_append, List.nil_append, List.append_nil, List.set_cons_zero, List.set_cons_succ, List.getElem?_cons_zero, List.getElem?_cons_succ, Option.some.injEq, V.ref.injEq, V.int.injEq, V.str.injEq, V.bl.injEq, V.ty.injEq, exists_eq_left', exists_eq_left, exists_and_left, List.cons.injEq, and_true, true_and, sc_ii, sc_ss, sc_bb, sc_ni, sc_in, sc_is, sc_si, sc_nn, decide_true, decide_false, reduceCtorEq, Bool.false_eq_true, if_true, if_false, ite_true, ite_false, exists_const, eq_self, false_and, and_false, or_false, false_or, exists_false, Evl.rLenS, rSum, wipe, tYes, exists_eq, exists_eq', rIxL, rIxT, rIxS, exists_and_right, gt_iff_lt, not_true_eq_false, not_false_eq_true, Bool.not_true, Bool.not_false, decide_eq_true_eq, Nat.reduceSub, Nat.reduceAdd, List.append_assoc, tChain, tDIn, tDNotIn, sDDel, tAug, ipI, tCallO]
        refine ⟨.inr ⟨dx, _, k3 _ _ not0 ho⟩, t, .str z, .int (j : Nat), .str z, .int (j : Nat), m, 0, rs, rfl, hT.kp k3, .str z, szz, .int _, fun z' s' ez' es' hh i0 i1 p H4 hp k4 => ?_, fun hh => by (rw [hasT] at hh; cases hh), fun hh hb => ?_⟩
        · cases ez'
          cases es'
          rw [hcc z hz j hj] at hp
          refine ⟨z, j, m, rfl, hj, fun p4 H5 hp4 k5 => ?_⟩
          refine ⟨p, p4, _, _, rfl, k5 _ _ not0 hp, hp4, ?_⟩
          try simp (maxSteps := 1000000) only [tSeq, tIfS, tTest, tOp, tUn, tCB, tCons, tNil, tVar, tC, rI0, rI, rU, rEq, rNe, tRet, tRetN, tAsg, gName, gSub, tBM, tBM0, tNext, tB, tNot, tAnd, tOr, tIf, tCall, tDrop, tBreak, tCont, L2.start, tDGet, sDPut, tTup, tLst, tDNewK, tRevL, rCat, rAppend, rPop, rSetL, tAndV, tOrV, tNotV, tSl, tPart, tNoPart, tM1, gTup, gCons, gNil, cxK, cxnK, List.map_cons, List.map_nil, List.length_cons, List.length_nil, List.replicate, List.cons_append, List.nil_append, List.append_nil, List.set_cons_zero, List.set_cons_succ, List.getElem?_cons_zero, List.getElem?_cons_succ, Option.some.injEq, V.ref.injEq, V.int.injEq, V.str.injEq, V.bl.injEq, V.ty.injEq, exists_eq_left', exists_eq_left, exists_and_left, List.cons.injEq, and_true, true_and, sc_ii, sc_ss, sc_bb, sc_ni, sc_in, sc_is, sc_si, sc_nn, decide_true, decide_false, reduceCtorEq, Bool.false_eq_true, if_true, if_false, ite_true, ite_false, exists_const, eq_self, false_and, and_false, or_false, false_or, exists_false, Evl.rLenS, rSum, wipe, tYes, exists_eq, exists_eq', rIxL, rIxT, rIxS, exists_and_right, gt_iff_lt, not_true_eq_false, not_false_eq_true, Bool.not_true, Bool.not_false, decide_eq_true_eq, Nat.reduceSub, Nat.reduceAdd, List.append_assoc, tChain, tDIn, tDNotIn, sDDel, tAug, ipI]
          exact (k3.trans k4).trans k5
        · have : (decide (0 ≤ (j : Int)) && decide ((j : Int) < (m : Nat))) = false := hb
          rw [decide_eq_true (show (0 : Int) ≤ j by omega), decide_eq_true (show (j : Int) < (m : Nat) by omega)] at this
          cases this
      · rintro σ H3 ⟨c6, c7, c8, c9, rfl, k3⟩
        exact ⟨_, _, _, _, _, rfl, k3⟩
    · rintro σ H2 ⟨c5, c6, c7, c8, c9, rfl, k2⟩
      try simp (maxSteps := 1000000) only [tSeq, tIfS, tTest, tOp, tUn, tCB, tCons, tNil, tVar, tC, rI0, rI, rU, rEq, rNe, tRet, tRetN, tAsg, gName, gSub, tBM, tBM0, tNext, tB, tNot, tAnd, tOr, tIf, tCall, tDrop, tBreak, tCont, L2.start, tDGet, sDPut, tTup, tLst, tDNewK, tRevL, rCat, rAppend, rPop, rSetL, tAndV, tOrV, tNotV, tSl, tPart, tNoPart, tM1, gTup, gCons, gNil, cxK, cxnK, List.map_cons, List.map_nil, List.length_cons, List.length_nil, List.replicate, List.cons_append, List.nil_append, List.append_nil, List.set_cons_zero, List.set_cons_succ, List.getElem?_cons_zero, List.getElem?_cons_succ, Option.some.injEq, V.ref.injEq, V.int.injEq, V.str.injEq, V.bl.injEq, V.ty.injEq, exists_eq_left', exists_eq_left, exists_and_left, List.cons.injEq, and_true, true_and, sc_ii, sc_ss, sc_bb, sc_ni, sc_in, sc_is, sc_si, sc_nn, decide_true, decide_false, reduceCtorEq, Bool.false_eq_true, if_true, if_false, ite_true, ite_false, exists_const, eq_self, false_and, and_false, or_false, false_or, exists_false, Evl.rLenS, rSum, wipe, tYes, exists_eq, exists_eq', rIxL, rIxT, rIxS, exists_and_right, gt_iff_lt, not_true_eq_false, not_false_eq_true, Bool.not_true, Bool.not_false, decide_eq_true_eq, Nat.reduceSub, Nat.reduceAdd, List.append_assoc, tChain, tDIn, tDNotIn, sDDel, tAug, ipI, tMeth]
      have hb : CellB zs m 10 (fun z => doP z m) := cellB_do m1 m9
      have ws : walkR rs 0 cs = walkC (fun z => doP z m) 0 cs := walk_same hb hcc hz (by decide) (by omega)
      have hcl2 := k2 _ _ not0 hcl
      refine ⟨dx, _, k2 _ _ not0 ho, rfl, _, .inl (sq_l hcl2), fun l nl' => ?_⟩
      have kl : Kp [] H2 (upd H2 l (.lst (cs.map V.str))) := Kp.new nl'
      have kl2 := k2.trans kl
      refine ⟨t, l, cs, m, 0, rs, rfl, hT.kp kl2, upd_same, c1, fun z h => name8 (nms z (hz z h)), fun hh r1 H3 nr1 hr1 k3 => ?_, fun i z ez hh _ => ?_⟩
      · rw [ws] at hr1
        refine isi_mk (b := true) (.lst hr1) (by decide +kernel) ?_
        have hcl3 := (kl2.trans k3) _ _ not0 hcl
        try simp (maxSteps := 1000000) only [tSeq, tIfS, tTest, tOp, tUn, tCB, tCons, tNil, tVar, tC, rI0, rI, rU, rEq, rNe, tRet, tRetN, tAsg, gName, gSub, tBM, tBM0, tNext, tB, tNot, tAnd, tOr, tIf, tCall, tDrop, tBreak, tCont, L2.start, tDGet, sDPut, tTup, tLst, tDNewK, tRevL, rCat, rAppend, rPop, rSetL, tAndV, tOrV, tNotV, tSl, tPart, tNoPart, tM1, gTup, gCons, gNil, cxK, cxnK, List.map_cons, List.map_nil, List.length_cons, List.length_nil, List.replicate, List.cons_append, List.nil_append, List.append_nil, List.set_cons_zero, List.set_cons_succ, List.getElem?_cons_zero, List.getElem?_cons_succ, Option.some.injEq, V.ref.injEq, V.int.injEq, V.str.injEq, V.bl.injEq, V.ty.injEq, exists_eq_left', exists_eq_left, exists_and_left, List.cons.injEq, and_true, true_and, sc_ii, sc_ss, sc_bb, sc_ni, sc_in, sc_is, sc_si, sc_nn, decide_true, decide_false, reduceCtorEq, Bool.false_eq_true, if_true, if_false, ite_true, ite_false, exists_const, eq_self, false_and, and_false, or_false, false_or, exists_false, Evl.rLenS, rSum, wipe, tYes, exists_eq, exists_eq', rIxL, rIxT, rIxS, exists_and_right, gt_iff_lt, not_true_eq_false, not_false_eq_true, Bool.not_true, Bool.not_false, decide_eq_true_eq, Nat.reduceSub, Nat.reduceAdd, List.append_assoc, tChain, tDIn, tDNotIn, sDDel, tAug, ipI]
        refine ⟨_, .inl (sq_l hr1), _, .inl (sq_l hcl3), ?_⟩
        rw [List.length_map, List.length_map, walkC_len, decide_eq_true rfl]
        try simp (maxSteps := 1000000) only [tSeq, tIfS, tTest, tOp, tUn, tCB, tCons, tNil, tVar, tC, rI0, rI, rU, rEq, rNe, tRet, tRetN, tAsg, gName, gSub, tBM, tBM0, tNext, tB, tNot, tAnd, tOr, tIf, tCall, tDrop, tBreak, tCont, L2.start, tDGet, sDPut, tTup, tLst, tDNewK, tRevL, rCat, rAppend, rPop, rSetL, tAndV, tOrV, tNotV, tSl, tPart, tNoPart, tM1, gTup, gCons, gNil, cxK, cxnK, List.map_cons, List.map_nil, List.length_cons, List.length_nil, List.replicate, List.cons_append, List.nil_append, List.append_nil, List.set_cons_zero, List.set_cons_succ, List.getElem?_cons_zero, List.getElem?_cons_succ, Option.some.injEq, V.ref.injEq, V.int.injEq, V.str.injEq, V.bl.injEq, V.ty.injEq, exists_eq_left', exists_eq_left, exists_and_left, List.cons.injEq, and_true, true_and, sc_ii, sc_ss, sc_bb, sc_ni, sc_in, sc_is, sc_si, sc_nn, decide_true, decide_false, reduceCtorEq, Bool.false_eq_true, if_true, if_false, ite_true, ite_false, exists_const, eq_self, false_and, and_false, or_false, false_or, exists_false, Evl.rLenS, rSum, wipe, tYes, exists_eq, exists_eq', rIxL, rIxT, rIxS, exists_and_right, gt_iff_lt, not_true_eq_false, not_false_eq_true, Bool.not_true, Bool.not_false, decide_eq_true_eq, Nat.reduceSub, Nat.reduceAdd, List.append_assoc, tChain, tDIn, tDNotIn, sDDel, tAug, ipI]
        refine forRg cs.length (fun j σ H' => ∃ c5 c8 c9, σ = [some (.ref t), some (.ref nl), some (.int (m : Nat)), some (.ref cl), some (.ref nn), c5, some (.int (stateC (fun z => doP z m) 0 (cs.take j))), some (.ref r1), c8, c9] ∧ Kp [] H3 H') ?_ (by omega) (by omega) ⟨_, _, _, rfl, Kp.refl _ _⟩ ?_ ?_
        · intro R q'
          try simp (maxSteps := 1000000) only [tSeq, tIfS, tTest, tOp, tUn, tCB, tCons, tNil, tVar, tC, rI0, rI, rU, rEq, rNe, tRet, tRetN, tAsg, gName, gSub, tBM, tBM0, tNext, tB, tNot, tAnd, tOr, tIf, tCall, tDrop, tBreak, tCont, L2.start, tDGet, sDPut, tTup, tLst, tDNewK, tRevL, rCat, rAppend, rPop, rSetL, tAndV, tOrV, tNotV, tSl, tPart, tNoPart, tM1, gTup, gCons, gNil, cxK, cxnK, List.map_cons, List.map_nil, List.length_cons, List.length_nil, List.replicate, List.cons_append, List.nil_append, List.append_nil, List.set_cons_zero, List.set_cons_succ, List.getElem?_cons_zero, List.getElem?_cons_succ, Option.some.injEq, V.ref.injEq, V.int.injEq, V.str.injEq, V.bl.injEq, V.ty.injEq, exists_eq_left', exists_eq_left, exists_and_left, List.cons.injEq, and_true, true_and, sc_ii, sc_ss, sc_bb, sc_ni, sc_in, sc_is, sc_si, sc_nn, decide_true, decide_false, reduceCtorEq, Bool.false_eq_true, if_true, if_false, ite_true, ite_false, exists_const, eq_self, false_and, and_false, or_false, false_or, exists_false, Evl.rLenS, rSum, wipe, tYes, exists_eq, exists_eq', rIxL, rIxT, rIxS, exists_and_right, gt_iff_lt, not_true_eq_false, not_false_eq_true, Bool.not_true, Bool.not_false, decide_eq_true_eq, Nat.reduceSub, Nat.reduceAdd, List.append_assoc, tChain, tDIn, tDNotIn, sDDel, tAug, ipI]
          refine ⟨_, .inl (sq_l hcl3), ?_⟩
          rw [List.length_map]
          exact q'
        · rintro j σ H4 hj ⟨c5, c8, c9, rfl, k4⟩
          have ez : cs[j]? = some cs[j] := List.getElem?_eq_getElem hj
          have so := stateC_ok hb (cs := cs.take j) (s := 0) (fun z h => hz z (List.mem_of_mem_take h)) (by decide) (by omega)
          obtain ⟨s', es⟩ : ∃ s' : Nat, stateC (fun z => doP z m) 0 (cs.take j) = (s' : Int) := ⟨(stateC (fun z => doP z m) 0 (cs.take j)).toNat, by omega⟩
          have wa := walk_at (c := fun z => doP z m) (s := 0) ez
          have sa := stateC_at (c := fun z => doP z m) (s := 0) ez
          rw [es, Int.toNat_natCast] at wa sa
          rw [es] at so ⊢
          try simp (maxSteps := 1000000) only [tSeq, tIfS, tTest, tOp, tUn, tCB, tCons, tNil, tVar, tC, rI0, rI, rU, rEq, rNe, tRet, tRetN, tAsg, gName, gSub, tBM, tBM0, tNext, tB, tNot, tAnd, tOr, tIf, tCall, tDrop, tBreak, tCont, L2.start, tDGet, sDPut, tTup, tLst, tDNewK, tRevL, rCat, rAppend, rPop, rSetL, tAndV, tOrV, tNotV, tSl, tPart, tNoPart, tM1, gTup, gCons, gNil, cxK, cxnK, List.map_cons, List.map_nil, List.length_cons, List.length_nil, List.replicate, List.cons_append, List.nil_append, List.append_nil, List.set_cons_zero, List.set_cons_succ, List.getElem?_cons_zero, List.getElem?_cons_succ, Option.some.injEq, V.ref.injEq, V.int.injEq, V.str.injEq, V.bl.injEq, V.ty.injEq, exists_eq_left', exists_eq_left, exists_and_left, List.cons.injEq, and_true, true_and, sc_ii, sc_ss, sc_bb, sc_ni, sc_in, sc_is, sc_si, sc_nn, decide_true, decide_false, reduceCtorEq, Bool.false_eq_true, if_true, if_false, ite_true, ite_false, exists_const, eq_self, false_and, and_false, or_false, false_or, exists_false, Evl.rLenS, rSum, wipe, tYes, exists_eq, exists_eq', rIxL, rIxT, rIxS, exists_and_right, gt_iff_lt, not_true_eq_false, not_false_eq_true, Bool.not_true, Bool.not_false, decide_eq_true_eq, Nat.reduceSub, Nat.reduceAdd, List.append_assoc, tChain, tDIn, tDNotIn, sDDel, tAug, ipI]
          refine ⟨_, sq_l (k4 _ _ not0 hcl3), .str cs[j], atI_nat (by rw [List.getElem?_map, ez]; rfl), cs[j], s', m, rfl, by omega, fun p H5 hp k5 => ?_⟩
          have k45 := k4.trans k5
          refine ⟨_, sq_l (k45 _ _ not0 hr1), .int (doP cs[j] m s').1, atI_nat (by rw [List.getElem?_map, wa]; rfl), p, rfl, _, sq_t hp, .int (doP cs[j] m s').1, rfl, _, _, rfl, ?_⟩
          rw [decide_eq_true rfl]
          try simp (maxSteps := 1000000) only [tSeq, tIfS, tTest, tOp, tUn, tCB, tCons, tNil, tVar, tC, rI0, rI, rU, rEq, rNe, tRet, tRetN, tAsg, gName, gSub, tBM, tBM0, tNext, tB, tNot, tAnd, tOr, tIf, tCall, tDrop, tBreak, tCont, L2.start, tDGet, sDPut, tTup, tLst, tDNewK, tRevL, rCat, rAppend, rPop, rSetL, tAndV, tOrV, tNotV, tSl, tPart, tNoPart, tM1, gTup, gCons, gNil, cxK, cxnK, List.map_cons, List.map_nil, List.length_cons, List.length_nil, List.replicate, List.cons_append, List.nil_append, List.append_nil, List.set_cons_zero, List.set_cons_succ, List.getElem?_cons_zero, List.getElem?_cons_succ, Option.some.injEq, V.ref.injEq, V.int.injEq, V.str.injEq, V.bl.injEq, V.ty.injEq, exists_eq_left', exists_eq_left, exists_and_left, List.cons.injEq, and_true, true_and, sc_ii, sc_ss, sc_bb, sc_ni, sc_in, sc_is, sc_si, sc_nn, decide_true, decide_false, reduceCtorEq, Bool.false_eq_true, if_true, if_false, ite_true, ite_false, exists_const, eq_self, false_and, and_false, or_false, false_or, exists_false, Evl.rLenS, rSum, wipe, tYes, exists_eq, exists_eq', rIxL, rIxT, rIxS, exists_and_right, gt_iff_lt, not_true_eq_false, not_false_eq_true, Bool.not_true, Bool.not_false, decide_eq_true_eq, Nat.reduceSub, Nat.reduceAdd, List.append_assoc, tChain, tDIn, tDNotIn, sDDel, tAug, ipI]
          exact ⟨_, sq_t hp, .int (doP cs[j] m s').2, rfl, by rw [sa], k45⟩
        · rintro σ H4 ⟨c5, c8, c9, rfl, k4⟩
          try simp (maxSteps := 1000000) only [tSeq, tIfS, tTest, tOp, tUn, tCB, tCons, tNil, tVar, tC, rI0, rI, rU, rEq, rNe, tRet, tRetN, tAsg, gName, gSub, tBM, tBM0, tNext, tB, tNot, tAnd, tOr, tIf, tCall, tDrop, tBreak, tCont, L2.start, tDGet, sDPut, tTup, tLst, tDNewK, tRevL, rCat, rAppend, rPop, rSetL, tAndV, tOrV, tNotV, tSl, tPart, tNoPart, tM1, gTup, gCons, gNil, cxK, cxnK, List.map_cons, List.map_nil, List.length_cons, List.length_nil, List.replicate, List.cons_append, List.nil_append, List.append_nil, List.set_cons_zero, List.set_cons_succ, List.getElem?_cons_zero, List.getElem?_cons_succ, Option.some.injEq, V.ref.injEq, V.int.injEq, V.str.injEq, V.bl.injEq, V.ty.injEq, exists_eq_left', exists_eq_left, exists_and_left, List.cons.injEq, and_true, true_and, sc_ii, sc_ss, sc_bb, sc_ni, sc_in, sc_is, sc_si, sc_nn, decide_true, decide_false, reduceCtorEq, Bool.false_eq_true, if_true, if_false, ite_true, ite_false, exists_const, eq_self, false_and, and_false, or_false, false_or, exists_false, Evl.rLenS, rSum, wipe, tYes, exists_eq, exists_eq', rIxL, rIxT, rIxS, exists_and_right, gt_iff_lt, not_true_eq_false, not_false_eq_true, Bool.not_true, Bool.not_false, decide_eq_true_eq, Nat.reduceSub, Nat.reduceAdd, List.append_assoc, tChain, tDIn, tDNotIn, sDDel, tAug, ipI]
          exact q H4 ((kl2.trans k3).trans k4)
      · exfalso
        have hz' := List.mem_of_getElem? ez
        have : hasD rs (.str z) = true := by
          show (nameS z && decide (z ∈ rs.map (·.1))) = true
          rw [nms z (hz z hz'), en', decide_eq_true (hz z hz')]; rfl
        rw [this] at hh
        cases hh
end
end My

set_option Elab.async false
set_option linter.all false
set_option maxRecDepth 100000
set_option maxHeartbeats 4000000
namespace My
open PySem L2 NdefX StX ClX
abbrev s_law : Stmt := top 42
theorem sc_law : FnScope ["_law_script", "_law_d", "_law_sizes", "_law_shapes", "_law_names_here", "_law_turn", "_law_k", "_law_shape", "_law_told", "_law_name", "_law_row", "_law_which", "_law_size", "_law_calls", "_law_spot", "_law_cell"] ["_law_script"] (defScope s_law) := ⟨rfl, rfl, rfl, by decide +kernel, rfl, by decide +kernel, by decide +kernel⟩
def bL : List Int := [8, 9, 8, 9, 1000000000]
def ShAt (c : Nat → Addr) (H : Hp) (o n w m : Nat) : Prop := (∃ dx, H o = some (.ins (c w) dx [("size", .int (m : Nat))])) ∧ H n = some (.lst ((nmS w).map V.str)) ∧ w < 8 ∧ 1 ≤ m ∧ m ≤ 9
/-- what stands since the shapes were made -/
structure LS (K : PySem.W.Frag) (c : Nat → Addr) (a dl sl shl nl : Addr) (ns ds : List Int) (H : Hp) : Prop where
  scr : Scr K H a ns
  hd : H dl = some (.lst (ds.map V.int))
  dk : DrawOk bL ds
  two : ∃ o0 o1 n0 n1 w0 w1 m0 m1 : Nat, H sl = some (.lst [.int (m0 : Nat), .int (m1 : Nat)]) ∧ H shl = some (.lst [.ref o0, .ref o1]) ∧ H nl = some (.lst [.ref n0, .ref n1]) ∧ ShAt c H o0 n0 w0 m0 ∧ ShAt c H o1 n1 w1 m1
theorem ShAt.kp {c : Nat → Addr} {H H' : Hp} {o n w m : Nat} (h : ShAt c H o n w m) (k : Kp [] H H') : ShAt c H' o n w m := ⟨by obtain ⟨dx, e⟩ := h.1; exact ⟨dx, k _ _ not0 e⟩, k _ _ not0 h.2.1, h.2.2⟩
theorem LS.kp {K : PySem.W.Frag} {c : Nat → Addr} {a dl sl shl nl : Addr} {ns ds : List Int} {H H' : Hp} (h : LS K c a dl sl shl nl ns ds H) (k : Kp [] H H') : LS K c a dl sl shl nl ns ds H' := by
  obtain ⟨o0, o1, n0, n1, w0, w1, m0, m1, e1, e2, e3, s0, s1⟩ := h.two
  exact ⟨⟨k.ls not0 h.scr.1, h.scr.2⟩, k _ _ not0 h.hd, h.dk, o0, o1, n0, n1, w0, w1, m0, m1, k _ _ not0 e1, k _ _ not0 e2, k _ _ not0 e3, s0.kp k, s1.kp k⟩
theorem LS.at {K : PySem.W.Frag} {c : Nat → Addr} {a dl sl shl nl : Addr} {ns ds : List Int} {H : Hp} (h : LS K c a dl sl shl nl ns ds H) {k : Int} (k0 : 0 ≤ k) (k2 : k < 2) : ∃ (o n w m : Nat) (xs ys zs : List V), SqL K H shl xs ∧ atI xs k = some (.ref o) ∧ SqL K H nl ys ∧ atI ys k = some (.ref n) ∧ SqL K H sl zs ∧ atI zs k = some (.int (m : Nat)) ∧ ShAt c H o n w m := by
  obtain ⟨o0, o1, n0, n1, w0, w1, m0, m1, e1, e2, e3, s0, s1⟩ := h.two
  have : k = 0 ∨ k = 1 := by omega
  rcases this with rfl | rfl
  · exact ⟨o0, n0, w0, m0, _, _, _, sq_l e2, rfl, sq_l e3, rfl, sq_l e1, rfl, s0⟩
  · exact ⟨o1, n1, w1, m1, _, _, _, sq_l e2, rfl, sq_l e3, rfl, sq_l e1, rfl, s1⟩
def SX (a dl sl shl nl : Addr) (σ : L2.St) : Prop := ∃ c5 c6 c7 c8 c9 c10 c11 c12 c13 c14 c15 : Option V, σ = [some (.ref a), some (.ref dl), some (.ref sl), some (.ref shl), some (.ref nl), c5, c6, c7, c8, c9, c10, c11, c12, c13, c14, c15]
def SL (K : PySem.W.Frag) (c : Nat → Addr) (a : Addr) (ns : List Int) (σ : L2.St) (H : Hp) : Prop := ∃ (dl sl shl nl : Addr) (ds : List Int), SX a dl sl shl nl σ ∧ LS K c a dl sl shl nl ns ds H
theorem forLD {K : PySem.W.Frag} {te : TE} {g : TG} {tb : TS} {D : Ends} {σ : L2.St} {H : Hp} (Pa : Addr → Hp → Prop) (ht : ∀ R : VK, (∀ a H1, Pa a H1 → R (.ref a) H1) → te σ H R) (h : ∀ a H1, Pa a H1 → tFor (iList K (fun _ _ q => q (.ref a) H1)) g tb D σ H1) : tFor (iList K te) g tb D σ H :=
  ht _ fun a H1 p => h a H1 p
def spLaw (K : PySem.W.Frag) : Sp := fun vs H Q _ => ∃ (a : Addr) (ns : List Int), vs = [.ref a] ∧ SqL K H a (ns.map V.int) ∧ ns.length ≤ 63 ∧ ∀ H', Q (.bl true) H'
structure BtV (mg : Str → Option Value) : Prop where
  b_int : mg "int" = none
  b_range : mg "range" = none
  b_len : mg "len" = none
section
variable {P : Program} {w : World} {K : PySem.W.Frag} {mg : Str → Option Value} {base : Heap}
theorem law_tail (T : BtV mg) {f : Addr} {cdv : Value} {A : Around} {outer : List Env} {s : Shared} {H : Hp} {Q : VK} {E : XK} (hr : Room 12 (A.deeper (PyProof.Rows.envOfC "law" (defScope s_law) s.heap.objs.size f cdv)))
    {c : Nat → Addr} {TC : Addr} {g1 : Addr} {gd1 : FuncData} (D_law_draws : Df K mg "_law_draws" s_law_draws ["_law_script", "_law_at", "_law_bounds"] g1 gd1) (G_law_draws : FnOk P w K mg base CX0 2 g1 gd1 ["_law_script", "_law_at", "_law_bounds"] (spDraws K))
    {g2 : Addr} {gd2 : FuncData} (D_law_table : Df K mg "_law_table" s_law_table ["_law_table_here", "_law_names_here", "_law_size", "_law_calls"] g2 gd2) (G_law_table : FnOk P w K mg base CX0 6 g2 gd2 ["_law_table_here", "_law_names_here", "_law_size", "_law_calls"] (spTbl TC))
    {g3 : Addr} {gd3 : FuncData} (D_table_of : Df K mg "table_of" s_table_of ["shape"] g3 gd3) (G_table_of : FnOk P w K mg base (L2.CX P w) 8 g3 gd3 ["shape"] (spTabOf c TC))
    {a : Addr} {ns : List Int} (q : ∀ H', Q (.bl true) H') :
    ∃ t, PSs (cxOf CX0 P w K mg base ["_law_script", "_law_d", "_law_sizes", "_law_shapes", "_law_names_here", "_law_turn", "_law_k", "_law_shape", "_law_told", "_law_name", "_law_row", "_law_which", "_law_size", "_law_calls", "_law_spot", "_law_cell"] "law" (defScope s_law) f cdv A outer s H E).nox ((defBody s_law).drop 6) t ∧ ∀ σ H9, SL K c a ns σ H9 → t { nx := fun _ H' => Q .non H', rt := Q } σ H9 := by
  have hu := hu_of hr
  refine ⟨_, (pss_cons (ps_for PassesOwn.never rfl (pi_range1 rfl T.b_range (pa_cons pe_int pa_nil)) (pg_name (i := 5) sc_law.nd rfl (Or.inl rfl)) (pss_cons (ps_set (i := 6) sc_law.nd rfl (Or.inr rfl) (pe_op op_mod (pe_callTy (T := "int") call_int1 (by rfl) T.b_int (by decide +kernel) (pa_cons (pv 5) pa_nil)) pe_int))
      (pss_one (ps_if (pt_cmpR (op_neD hr.units) (pe_ix (r := rIxL K) ix_list (pv 4) (pv 6) (fun _ _ => rfl)) (pe_lst pa_nil) (nomark _)) (pss_cons (ps_setLc (i := 13) (own := [("_law_spot", 14)]) (g := (gName 14)) (tt := tYes) rfl sc_law.nd rfl rfl (sw_true rfl rfl rfl (by decide +kernel)) (pi_list (pe_call G_law_draws (hr.mono (by decide)) rfl D_law_draws.g D_law_draws.F.kp D_law_draws.b .nil pass0 (pa_cons (pv 0) (pa_cons pe_int (pa_cons (pe_op op_rep (pe_lst (pa_cons (pe_callB (id := "len") (r := Evl.rLenS K) call_len_seq (by rfl) T.b_len PySem.boot_len (pa_cons (pe_ix (r := rIxL K) ix_list (pv 4) (pv 6) (fun _ _ => rfl)) pa_nil)) pa_nil)) pe_int) pa_nil))))) (blkOk_by (N := ["_law_script", "_law_d", "_law_sizes", "_law_shapes", "_law_names_here", "_law_turn", "_law_k", "_law_shape", "_law_told", "_law_name", "_law_row", "_law_which", "_law_size", "_law_calls", "_law_spot", "_law_cell"]) (sc := defScope s_law) (by decide +kernel)) (fun _ _ _ _ _ => (pg_name (i := 14) sc_law.nd rfl (Or.inl rfl))) (fun _ _ _ _ _ => pts_nil) (fun _ _ _ _ _ => (pe_ix (r := rIxL K) ix_list (pe_ix (r := rIxL K) ix_list (pv 4) (pv 6) (fun _ _ => rfl)) (pv 14) (fun _ _ => rfl))))
      (pss_cons (ps_set (i := 13) sc_law.nd rfl (Or.inl rfl) (pe_op op_cat (pv 13) (pe_lc (own := [("_law_cell", 15)]) (g := (gName 15)) (tt := tYes) rfl sc_law.nd (pi_list (pe_slice sl_list (pv 0) (po_some pe_int) po_none)) (blkOk_by (N := ["_law_script", "_law_d", "_law_sizes", "_law_shapes", "_law_names_here", "_law_turn", "_law_k", "_law_shape", "_law_told", "_law_name", "_law_row", "_law_which", "_law_size", "_law_calls", "_law_spot", "_law_cell"]) (sc := defScope s_law) (by decide +kernel)) (fun _ _ _ _ _ => (pg_name (i := 15) sc_law.nd rfl (Or.inl rfl))) (fun _ _ _ _ _ => pts_nil) (fun _ _ _ _ _ => (pe_ix (r := rIxL K) ix_list (pe_ix (r := rIxL K) ix_list (pv 4) (pv 6) (fun _ _ => rfl)) (pe_op op_mod (pe_callTy (T := "int") call_int1 (by rfl) T.b_int (by decide +kernel) (pa_cons (pv 15) pa_nil)) (pe_callB (id := "len") (r := Evl.rLenS K) call_len_seq (by rfl) T.b_len PySem.boot_len (pa_cons (pe_ix (r := rIxL K) ix_list (pv 4) (pv 6) (fun _ _ => rfl)) pa_nil))) (fun _ _ => rfl))))))
      (pss_one (ps_if (pt_not (pt_val (pe_call G_law_table (hr.mono (by decide)) rfl D_law_table.g D_law_table.F.kp D_law_table.b .nil pass0 (pa_cons (pe_call G_table_of (hr.mono (by decide)) rfl D_table_of.g D_table_of.F.kp D_table_of.b .nil passL (pa_cons (pe_ix (r := rIxL K) ix_list (pv 3) (pv 6) (fun _ _ => rfl)) pa_nil)) (pa_cons (pe_ix (r := rIxL K) ix_list (pv 4) (pv 6) (fun _ _ => rfl)) (pa_cons (pe_ix (r := rIxL K) ix_list (pv 2) (pv 6) (fun _ _ => rfl)) (pa_cons (pv 13) pa_nil))))))) (pss_one (ps_ret pe_bl)) pss_nil)))) pss_nil))))
      (pss_one (ps_ret pe_bl))), ?_⟩
  rintro σ H1 ⟨dl, sl, shl, nl, ds, ⟨c5, c6, c7, c8, c9, c10, c11, c12, c13, c14, c15, rfl⟩, hL⟩
  try simp (maxSteps := 1000000) only [tSeq, tIfS, tTest, tOp, tUn, tCB, tCons, tNil, tVar, tC, rI0, rI, rU, rEq, rNe, tRet, tRetN, tAsg, gName, gSub, tBM, tBM0, tNext, tB, tNot, tAnd, tOr, tIf, tCall, tDrop, tBreak, tCont, L2.start, tDGet, sDPut, tTup, tLst, tDNewK, tRevL, rCat, rAppend, rPop, rSetL, tAndV, tOrV, tNotV, tSl, tPart, tNoPart, tM1, gTup, gCons, gNil, cxK, cxnK, List.map_cons, List.map_nil, List.length_cons, List.length_nil, List.replicate, List.cons_append, List.nil_append, List.append_nil, List.set_cons_zero, List.set_cons_succ, List.getElem?_cons_zero, List.getElem?_cons_succ, Option.some.injEq, V.ref.injEq, V.int.injEq, V.str.injEq, V.bl.injEq, V.ty.injEq, exists_eq_left', exists_eq_left, exists_and_left, List.cons.injEq, and_true, true_and, sc_ii, sc_ss, sc_bb, sc_ni, sc_in, sc_is, sc_si, sc_nn, decide_true, decide_false, reduceCtorEq, Bool.false_eq_true, if_true, if_false, ite_true, ite_false, exists_const, eq_self, false_and, and_false, or_false, false_or, exists_false, Evl.rLenS, rSum, wipe, tYes, exists_eq, exists_eq', rIxL, rIxT, rIxS, exists_and_right, gt_iff_lt, not_true_eq_false, not_false_eq_true, Bool.not_true, Bool.not_false, decide_eq_true_eq, Nat.reduceSub, Nat.reduceAdd, List.append_assoc, tChain, tDIn, tDNotIn, sDDel, tAug, ipI]
  refine forRg 3 (fun j σ H' => SX a dl sl shl nl σ ∧ LS K c a dl sl shl nl ns ds H') (fun R q' => q') (by decide) (by decide) ⟨⟨_, _, _, _, _, _, _, _, _, _, _, rfl⟩, hL⟩ ?_ ?_
  · rintro j σ H2 hj ⟨⟨c5, c6, c7, c8, c9, c10, c11, c12, c13, c14, c15, rfl⟩, hL⟩
    try simp (maxSteps := 1000000) only [tSeq, tIfS, tTest, tOp, tUn, tCB, tCons, tNil, tVar, tC, rI0, rI, rU, rEq, rNe, tRet, tRetN, tAsg, gName, gSub, tBM, tBM0, tNext, tB, tNot, tAnd, tOr, tIf, tCall, tDrop, tBreak, tCont, L2.start, tDGet, sDPut, tTup, tLst, tDNewK, tRevL, rCat, rAppend, rPop, rSetL, tAndV, tOrV, tNotV, tSl, tPart, tNoPart, tM1, gTup, gCons, gNil, cxK, cxnK, List.map_cons, List.map_nil, List.length_cons, List.length_nil, List.replicate, List.cons_append, List.nil_append, List.append_nil, List.set_cons_zero, List.set_cons_succ, List.getElem?_cons_zero, List.getElem?_cons_succ, Option.some.injEq, V.ref.injEq, V.int.injEq, V.str.injEq, V.bl.injEq, V.ty.injEq, exists_eq_left', exists_eq_left, exists_and_left, List.cons.injEq, and_true, true_and, sc_ii, sc_ss, sc_bb, sc_ni, sc_in, sc_is, sc_si, sc_nn, decide_true, decide_false, reduceCtorEq, Bool.false_eq_true, if_true, if_false, ite_true, ite_false, exists_const, eq_self, false_and, and_false, or_false, false_or, exists_false, Evl.rLenS, rSum, wipe, tYes, exists_eq, exists_eq', rIxL, rIxT, rIxS, exists_and_right, gt_iff_lt, not_true_eq_false, not_false_eq_true, Bool.not_true, Bool.not_false, decide_eq_true_eq, Nat.reduceSub, Nat.reduceAdd, List.append_assoc, tChain, tDIn, tDNotIn, sDDel, tAug, ipI]
    refine ⟨by decide, ?_⟩
    have k0 : (0 : Int) ≤ (j : Int) % 2 := by omega
    have k2 : (j : Int) % 2 < 2 := by omega
    generalize hk : (j : Int) % 2 = k at k0 k2 ⊢
    obtain ⟨o, n, u, m, xs, ys, ss, hsh, ao, hnl, an, hsl, am, ⟨dx, ho⟩, hn, hw, m1, m9⟩ := hL.at k0 k2
    refine ⟨ys, hnl, .ref n, an, by decide, fun p np => ?_⟩
    have kp : Kp [] H2 (upd H2 p (.lst [])) := Kp.new np
    have nd := nmS_nd u hw
    refine ⟨.list ((nmS u).map PyData.str), .list [], .lst (sq_l (kp _ _ not0 hn)) (dpStrs _), .lst (sq_l upd_same) .nil, shaped_names nd.2.1, rfl, ?_⟩
    by_cases hne : nmS u = []
    · rw [hne, show PyData.eqv (.list (([] : List Str).map PyData.str)) (.list []) = true from rfl]
      refine ⟨false, rfl, ?_⟩
      rw [if_neg (by decide)]
      exact ⟨⟨_, _, _, _, _, _, _, _, _, _, _, rfl⟩, hL.kp kp⟩
    have e1 : PyData.eqv (.list ((nmS u).map PyData.str)) (.list []) = false := by
      cases e : nmS u with
      | nil => exact absurd e hne
      | cons z r => rfl
    rw [e1]
    refine ⟨true, rfl, ?_⟩
    rw [if_pos rfl]
    have z1 : 1 ≤ (nmS u).length := by
      cases e : nmS u with
      | nil => exact absurd e hne
      | cons z r => simp
    have zl0 : (((nmS u).length : Nat) : Int) ≠ 0 := by omega
    generalize upd H2 p (.lst []) = H at kp ⊢
    have hL := hL.kp kp
    have hnl := kp.ls not0 hnl
    have hn := kp _ _ not0 hn
    refine lcL (fun dr HA => ∃ ds : List Int, HA dr = some (.lst (ds.map V.int)) ∧ DrawOk (List.replicate 8 (((nmS u).length : Nat) : Int)) ds ∧ Kp [] H HA) (fun R hR => ?_) (fun dr HA hP => ?_)
    · try simp (maxSteps := 1000000) only [tSeq, tIfS, tTest, tOp, tUn, tCB, tCons, tNil, tVar, tC, rI0, rI, rU, rEq, rNe, tRet, tRetN, tAsg, gName, gSub, tBM, tBM0, tNext, tB, tNot, tAnd, tOr, tIf, tCall, tDrop, tBreak, tCont, L2.start, tDGet, sDPut, tTup, tLst, tDNewK, tRevL, rCat, rAppend, rPop, rSetL, tAndV, tOrV, tNotV, tSl, tPart, tNoPart, tM1, gTup, gCons, gNil, cxK, cxnK, List.map_cons, List.map_nil, List.length_cons, List.length_nil, List.replicate, List.cons_append, List.nil_append, List.append_nil, List.set_cons_zero, List.set_cons_succ, List.getElem?_cons_zero, List.getElem?_cons_succ, Option.some.injEq, V.ref.injEq, V.int.injEq, V.str.injEq, V.bl.injEq, V.ty.injEq, exists_eq_left', exists_eq_left, exists_and_left, List.cons.injEq, and_true, true_and, sc_ii, sc_ss, sc_bb, sc_ni, sc_in, sc_is, sc_si, sc_nn, decide_true, decide_false, reduceCtorEq, Bool.false_eq_true, if_true, if_false, ite_true, ite_false, exists_const, eq_self, false_and, and_false, or_false, false_or, exists_false, Evl.rLenS, rSum, wipe, tYes, exists_eq, exists_eq', rIxL, rIxT, rIxS, exists_and_right, gt_iff_lt, not_true_eq_false, not_false_eq_true, Bool.not_true, Bool.not_false, decide_eq_true_eq, Nat.reduceSub, Nat.reduceAdd, List.append_assoc, tChain, tDIn, tDNotIn, sDDel, tAug, ipI, rRep]
      refine ⟨ys, hnl, .ref n, an, n, rfl, _, .inl (sq_l hn), by decide, fun q1 nq1 => ⟨_, upd_same, by decide, by decide, (show 1 * 8 ≤ sizeLine by decide), fun q2 nq2 => ?_⟩⟩
      have kq : Kp [] H (upd (upd H q1 (.lst [.int (((nmS u).map V.str).length : Nat)])) q2 (.lst (List.replicate (Int.toNat 8) [V.int (((nmS u).map V.str).length : Nat)]).flatten)) := (Kp.new nq1).trans (Kp.new nq2)
      have hq2 : (upd (upd H q1 (.lst [.int (((nmS u).map V.str).length : Nat)])) q2 (.lst (List.replicate (Int.toNat 8) [V.int (((nmS u).map V.str).length : Nat)]).flatten)) q2 = some (.lst ((List.replicate 8 (((nmS u).length : Nat) : Int)).map V.int)) := by
        rw [upd_same, List.length_map]; rfl
      generalize (upd (upd H q1 (.lst [.int (((nmS u).map V.str).length : Nat)])) q2 (.lst (List.replicate (Int.toNat 8) [V.int (((nmS u).map V.str).length : Nat)]).flatten)) = H9 at kq hq2 ⊢
      refine ⟨a, q2, 1, ns, _, rfl, ⟨kq.ls not0 hL.scr.1, hL.scr.2⟩, by decide, hq2, by rw [List.length_replicate]; decide, fun b hb => by rw [(List.mem_replicate.mp hb).2]; have := nd.2.2; omega, fun dr ds HA ndr hdr hds kA => hR dr HA ⟨ds, hdr, hds, kq.trans kA⟩⟩
    obtain ⟨es, hdr, hds, k0A⟩ := hP
    have d6 : es.length = 8 := by rw [hds.1, List.length_replicate]
    refine ⟨dr, rfl, ⟨_, sq_l hdr⟩, fun D nD => lc_list (K := K) (a := dr) (xs := es.map V.int) (fun i H' => ∃ cs, H' D = some (.lst (cs.map V.str)) ∧ cs.length = i ∧ (∀ z ∈ cs, z ∈ nmS u) ∧ Kp [] HA H') ⟨[], upd_same, rfl, (fun z h => nomatch h), Kp.new nD⟩ (fun i H' _ h => by obtain ⟨_, _, _, _, k⟩ := h; exact k.ls not0 (sq_l hdr)) ?_ ?_⟩
    · rintro i x HB hx ⟨cs, hD, cl, cm, kB⟩
      obtain ⟨d, ed, rfl⟩ : ∃ d, es[i]? = some d ∧ V.int d = x := by
        rw [List.getElem?_map] at hx
        cases e : es[i]? with
        | none => rw [e] at hx; cases hx
        | some b => rw [e] at hx; exact ⟨b, rfl, Option.some.inj hx⟩
      have hi : i < 8 := by have := (List.getElem?_eq_some_iff.mp ed).1; omega
      obtain ⟨dd0, dd1⟩ := hds.2 i d _ ed (by rw [List.getElem?_replicate, if_pos hi])
      obtain ⟨z, zm, az⟩ := pick_of dd0 dd1
      try simp (maxSteps := 1000000) only [tSeq, tIfS, tTest, tOp, tUn, tCB, tCons, tNil, tVar, tC, rI0, rI, rU, rEq, rNe, tRet, tRetN, tAsg, gName, gSub, tBM, tBM0, tNext, tB, tNot, tAnd, tOr, tIf, tCall, tDrop, tBreak, tCont, L2.start, tDGet, sDPut, tTup, tLst, tDNewK, tRevL, rCat, rAppend, rPop, rSetL, tAndV, tOrV, tNotV, tSl, tPart, tNoPart, tM1, gTup, gCons, gNil, cxK, cxnK, List.map_cons, List.map_nil, List.length_cons, List.length_nil, List.replicate, List.cons_append, List.nil_append, List.append_nil, List.set_cons_zero, List.set_cons_succ, List.getElem?_cons_zero, List.getElem?_cons_succ, Option.some.injEq, V.ref.injEq, V.int.injEq, V.str.injEq, V.bl.injEq, V.ty.injEq, exists_eq_left', exists_eq_left, exists_and_left, List.cons.injEq, and_true, true_and, sc_ii, sc_ss, sc_bb, sc_ni, sc_in, sc_is, sc_si, sc_nn, decide_true, decide_false, reduceCtorEq, Bool.false_eq_true, if_true, if_false, ite_true, ite_false, exists_const, eq_self, false_and, and_false, or_false, false_or, exists_false, Evl.rLenS, rSum, wipe, tYes, exists_eq, exists_eq', rIxL, rIxT, rIxS, exists_and_right, gt_iff_lt, not_true_eq_false, not_false_eq_true, Bool.not_true, Bool.not_false, decide_eq_true_eq, Nat.reduceSub, Nat.reduceAdd, List.append_assoc, tChain, tDIn, tDNotIn, sDDel, tAug, ipI]
      have k0B := k0A.trans kB
      refine ⟨ys, k0B.ls not0 hnl, .ref n, an, n, rfl, _, sq_l (k0B _ _ not0 hn), .str z, az, _, hD, smallL (by rw [List.length_map]; omega), cs ++ [z], by rw [upd_same, List.map_append]; rfl, by rw [List.length_append, cl]; rfl, fun y hy => ?_, kB.wr nD⟩
      rcases List.mem_append.mp hy with h | h
      · exact cm y h
      · rw [List.mem_singleton.mp h]; exact zm
    rintro HB ⟨cs, hD, cl, cm, kB⟩
    have k0B := k0A.trans kB
    refine lcL (fun sl HC => HC sl = some (.lst (cutV (ns.map V.int) (some 2) none)) ∧ Kp [] HB HC) (fun R hR => ?_) (fun s2 HC hP => ?_)
    · try simp (maxSteps := 1000000) only [tSeq, tIfS, tTest, tOp, tUn, tCB, tCons, tNil, tVar, tC, rI0, rI, rU, rEq, rNe, tRet, tRetN, tAsg, gName, gSub, tBM, tBM0, tNext, tB, tNot, tAnd, tOr, tIf, tCall, tDrop, tBreak, tCont, L2.start, tDGet, sDPut, tTup, tLst, tDNewK, tRevL, rCat, rAppend, rPop, rSetL, tAndV, tOrV, tNotV, tSl, tPart, tNoPart, tM1, gTup, gCons, gNil, cxK, cxnK, List.map_cons, List.map_nil, List.length_cons, List.length_nil, List.replicate, List.cons_append, List.nil_append, List.append_nil, List.set_cons_zero, List.set_cons_succ, List.getElem?_cons_zero, List.getElem?_cons_succ, Option.some.injEq, V.ref.injEq, V.int.injEq, V.str.injEq, V.bl.injEq, V.ty.injEq, exists_eq_left', exists_eq_left, exists_and_left, List.cons.injEq, and_true, true_and, sc_ii, sc_ss, sc_bb, sc_ni, sc_in, sc_is, sc_si, sc_nn, decide_true, decide_false, reduceCtorEq, Bool.false_eq_true, if_true, if_false, ite_true, ite_false, exists_const, eq_self, false_and, and_false, or_false, false_or, exists_false, Evl.rLenS, rSum, wipe, tYes, exists_eq, exists_eq', rIxL, rIxT, rIxS, exists_and_right, gt_iff_lt, not_true_eq_false, not_false_eq_true, Bool.not_true, Bool.not_false, decide_eq_true_eq, Nat.reduceSub, Nat.reduceAdd, List.append_assoc, tChain, tDIn, tDNotIn, sDDel, tAug, ipI]
      refine ⟨a, _, rfl, k0B.ls not0 hL.scr.1, fun sl nsl => hR sl _ ?_⟩
      exact ⟨upd_same, Kp.new nsl⟩
    obtain ⟨hs2, ksl⟩ := hP
    have k0C := k0B.trans ksl
    have cutl : (cutV (ns.map V.int) (some 2) none).length ≤ 63 := by
      have e := cut_i (f := V.int) (ts := ns) (i := 2)
      rw [show ((2 : Nat) : Int) = 2 from rfl] at e
      rw [e, List.length_map, List.length_drop]
      have := hL.scr.2; omega
    refine ⟨s2, rfl, ⟨_, sq_l hs2⟩, fun D2 nD2 => ?_⟩
    refine lc_list (K := K) (a := s2) (xs := cutV (ns.map V.int) (some 2) none) (fun i H' => ∃ cs, H' D2 = some (.lst (cs.map V.str)) ∧ cs.length = i ∧ (∀ z ∈ cs, z ∈ nmS u) ∧ Kp [] HC H') ⟨[], upd_same, rfl, (fun z h => nomatch h), Kp.new nD2⟩ (fun i H' _ h => by obtain ⟨_, _, _, _, k⟩ := h; exact k.ls not0 (sq_l hs2)) ?_ ?_
    · rintro i x HE hx ⟨ce, hDe, cle, cme, kE⟩
      obtain ⟨d, rfl⟩ : ∃ d, V.int d = x := by
        have h1 : x ∈ ns.map V.int := List.mem_of_mem_drop (List.mem_of_mem_take (List.mem_of_getElem? hx))
        obtain ⟨d, _, e⟩ := List.mem_map.mp h1
        exact ⟨d, e⟩
      have hi := (List.getElem?_eq_some_iff.mp hx).1
      obtain ⟨z, zm, az⟩ := pick_of (zs := nmS u) (i := d % (((nmS u).length : Nat) : Int)) (Int.emod_nonneg _ zl0) (Int.emod_lt_of_pos _ (by omega))
      have k0E := k0C.trans kE
      have hpE := k0E _ _ not0 hn
      have hnE := k0E.ls not0 hnl
      try simp (maxSteps := 1000000) only [tSeq, tIfS, tTest, tOp, tUn, tCB, tCons, tNil, tVar, tC, rI0, rI, rU, rEq, rNe, tRet, tRetN, tAsg, gName, gSub, tBM, tBM0, tNext, tB, tNot, tAnd, tOr, tIf, tCall, tDrop, tBreak, tCont, L2.start, tDGet, sDPut, tTup, tLst, tDNewK, tRevL, rCat, rAppend, rPop, rSetL, tAndV, tOrV, tNotV, tSl, tPart, tNoPart, tM1, gTup, gCons, gNil, cxK, cxnK, List.map_cons, List.map_nil, List.length_cons, List.length_nil, List.replicate, List.cons_append, List.nil_append, List.append_nil, List.set_cons_zero, List.set_cons_succ, List.getElem?_cons_zero, List.getElem?_cons_succ, Option.some.injEq, V.ref.injEq, V.int.injEq, V.str.injEq, V.bl.injEq, V.ty.injEq, exists_eq_left', exists_eq_left, exists_and_left, List.cons.injEq, and_true, true_and, sc_ii, sc_ss, sc_bb, sc_ni, sc_in, sc_is, sc_si, sc_nn, decide_true, decide_false, reduceCtorEq, Bool.false_eq_true, if_true, if_false, ite_true, ite_false, exists_const, eq_self, false_and, and_false, or_false, false_or, exists_false, Evl.rLenS, rSum, wipe, tYes, exists_eq, exists_eq', rIxL, rIxT, rIxS, exists_and_right, gt_iff_lt, not_true_eq_false, not_false_eq_true, Bool.not_true, Bool.not_false, decide_eq_true_eq, Nat.reduceSub, Nat.reduceAdd, List.append_assoc, tChain, tDIn, tDNotIn, sDDel, tAug, ipI]
      refine ⟨ys, hnE, .ref n, an, ys, hnE, .ref n, an, n, rfl, _, .inl (sq_l hpE), by rw [List.length_map]; omega, n, rfl, _, sq_l hpE, .str z, by rw [List.length_map]; exact az, _, hDe, smallL (by rw [List.length_map]; omega), ce ++ [z], by rw [upd_same, List.map_append]; rfl, by rw [List.length_append, cle]; rfl, fun y hy => ?_, kE.wr nD2⟩
      rcases List.mem_append.mp hy with h | h
      · exact cme y h
      · rw [List.mem_singleton.mp h]; exact zm
    rintro HE ⟨ce, hDe, cle, cme, kE⟩
    have k0E := k0C.trans kE
    have kBE := ksl.trans kE
    try simp (maxSteps := 1000000) only [tSeq, tIfS, tTest, tOp, tUn, tCB, tCons, tNil, tVar, tC, rI0, rI, rU, rEq, rNe, tRet, tRetN, tAsg, gName, gSub, tBM, tBM0, tNext, tB, tNot, tAnd, tOr, tIf, tCall, tDrop, tBreak, tCont, L2.start, tDGet, sDPut, tTup, tLst, tDNewK, tRevL, rCat, rAppend, rPop, rSetL, tAndV, tOrV, tNotV, tSl, tPart, tNoPart, tM1, gTup, gCons, gNil, cxK, cxnK, List.map_cons, List.map_nil, List.length_cons, List.length_nil, List.replicate, List.cons_append, List.nil_append, List.append_nil, List.set_cons_zero, List.set_cons_succ, List.getElem?_cons_zero, List.getElem?_cons_succ, Option.some.injEq, V.ref.injEq, V.int.injEq, V.str.injEq, V.bl.injEq, V.ty.injEq, exists_eq_left', exists_eq_left, exists_and_left, List.cons.injEq, and_true, true_and, sc_ii, sc_ss, sc_bb, sc_ni, sc_in, sc_is, sc_si, sc_nn, decide_true, decide_false, reduceCtorEq, Bool.false_eq_true, if_true, if_false, ite_true, ite_false, exists_const, eq_self, false_and, and_false, or_false, false_or, exists_false, Evl.rLenS, rSum, wipe, tYes, exists_eq, exists_eq', rIxL, rIxT, rIxS, exists_and_right, gt_iff_lt, not_true_eq_false, not_false_eq_true, Bool.not_true, Bool.not_false, decide_eq_true_eq, Nat.reduceSub, Nat.reduceAdd, List.append_assoc, tChain, tDIn, tDNotIn, sDDel, tAug, ipI]
    rw [List.length_map] at cl
    refine ⟨_, kBE _ _ not0 hD, _, hDe, small (by rw [List.length_map, List.length_map]; omega), fun p3 np3 => ?_⟩
    have hc3 : upd HE p3 (.lst (cs.map V.str ++ ce.map V.str)) p3 = some (.lst ((cs ++ ce).map V.str)) := by rw [upd_same, List.map_append]
    have kF : Kp [] H (upd HE p3 (.lst (cs.map V.str ++ ce.map V.str))) := k0E.trans (Kp.new np3)
    generalize upd HE p3 (.lst (cs.map V.str ++ ce.map V.str)) = HF at hc3 kF ⊢
    have hm : ∀ z ∈ cs ++ ce, z ∈ nmS u := fun z hz => (List.mem_append.mp hz).elim (cm z) (cme z)
    have hlen : (cs ++ ce).length ≤ 1000 := by rw [List.length_append]; omega
    refine ⟨xs, (kp.trans kF).ls not0 hsh, .ref o, ao, o, u, dx, m, rfl, hw, (kp.trans kF) _ _ not0 ho, m1, m9, hne, fun t H7 hT k7 => ?_⟩
    have k27 := (kp.trans kF).trans k7
    refine ⟨ys, (kF.trans k7).ls not0 hnl, .ref n, an, ss, k27.ls not0 hsl, .int (m : Nat), am, t, n, p3, m, nmS u, cs ++ ce, rfl, hT, (kF.trans k7) _ _ not0 hn, nd.2.2, m1, m9, k7 _ _ not0 hc3, hlen, hm, fun H8 k8 => ⟨true, rfl, ?_⟩⟩
    rw [if_neg (by decide)]
    exact ⟨⟨_, _, _, _, _, _, _, _, _, _, _, rfl⟩, hL.kp ((kF.trans k7).trans k8)⟩
  · rintro σ H2 ⟨⟨c5, c6, c7, c8, c9, c10, c11, c12, c13, c14, c15, rfl⟩, hL⟩
    try simp (maxSteps := 1000000) only [tSeq, tIfS, tTest, tOp, tUn, tCB, tCons, tNil, tVar, tC, rI0, rI, rU, rEq, rNe, tRet, tRetN, tAsg, gName, gSub, tBM, tBM0, tNext, tB, tNot, tAnd, tOr, tIf, tCall, tDrop, tBreak, tCont, L2.start, tDGet, sDPut, tTup, tLst, tDNewK, tRevL, rCat, rAppend, rPop, rSetL, tAndV, tOrV, tNotV, tSl, tPart, tNoPart, tM1, gTup, gCons, gNil, cxK, cxnK, List.map_cons, List.map_nil, List.length_cons, List.length_nil, List.replicate, List.cons_append, List.nil_append, List.append_nil, List.set_cons_zero, List.set_cons_succ, List.getElem?_cons_zero, List.getElem?_cons_succ, Option.some.injEq, V.ref.injEq, V.int.injEq, V.str.injEq, V.bl.injEq, V.ty.injEq, exists_eq_left', exists_eq_left, exists_and_left, List.cons.injEq, and_true, true_and, sc_ii, sc_ss, sc_bb, sc_ni, sc_in, sc_is, sc_si, sc_nn, decide_true, decide_false, reduceCtorEq, Bool.false_eq_true, if_true, if_false, ite_true, ite_false, exists_const, eq_self, false_and, and_false, or_false, false_or, exists_false, Evl.rLenS, rSum, wipe, tYes, exists_eq, exists_eq', rIxL, rIxT, rIxS, exists_and_right, gt_iff_lt, not_true_eq_false, not_false_eq_true, Bool.not_true, Bool.not_false, decide_eq_true_eq, Nat.reduceSub, Nat.reduceAdd, List.append_assoc, tChain, tDIn, tDNotIn, sDDel, tAug, ipI]
    exact q _
theorem law_p5 (T : BtV mg) {f : Addr} {cdv : Value} {A : Around} {outer : List Env} {s : Shared} {H : Hp} {Q : VK} {E : XK} (hr : Room 12 (A.deeper (PyProof.Rows.envOfC "law" (defScope s_law) s.heap.objs.size f cdv)))
    {c : Nat → Addr} {g1 : Addr} {gd1 : FuncData} (D_law_bad_size : Df K mg "_law_bad_size" s_law_bad_size ["_law_which", "_law_size"] g1 gd1) (G_law_bad_size : FnOk P w K mg base CX0 7 g1 gd1 ["_law_which", "_law_size"] spBadS)
    {a : Addr} {ns : List Int} {t : TS} (ht : PSs (cxOf CX0 P w K mg base ["_law_script", "_law_d", "_law_sizes", "_law_shapes", "_law_names_here", "_law_turn", "_law_k", "_law_shape", "_law_told", "_law_name", "_law_row", "_law_which", "_law_size", "_law_calls", "_law_spot", "_law_cell"] "law" (defScope s_law) f cdv A outer s H E).nox ((defBody s_law).drop 6) t) (hq : ∀ σ H9, SL K c a ns σ H9 → t { nx := fun _ H' => Q .non H', rt := Q } σ H9) :
    ∃ t, PSs (cxOf CX0 P w K mg base ["_law_script", "_law_d", "_law_sizes", "_law_shapes", "_law_names_here", "_law_turn", "_law_k", "_law_shape", "_law_told", "_law_name", "_law_row", "_law_which", "_law_size", "_law_calls", "_law_spot", "_law_cell"] "law" (defScope s_law) f cdv A outer s H E).nox ((defBody s_law).drop 5) t ∧ ∀ σ H9, SL K c a ns σ H9 → t { nx := fun _ H' => Q .non H', rt := Q } σ H9 := by
  have hu := hu_of hr
  refine ⟨_, (pss_cons (ps_for PassesOwn.never rfl (pi_range1 rfl T.b_range (pa_cons pe_int pa_nil)) (pg_name (i := 11) sc_law.nd rfl (Or.inl rfl)) (pss_one (ps_for PassesOwn.never rfl (pi_list (pe_lst (pa_cons pe_int (pa_cons pe_int (pa_cons (pe_un un_neg pe_int) (pa_cons (pe_op op_add pe_int (pe_ix (r := rIxL K) ix_list (pv 1) pe_int (fun _ _ => rfl))) (pa_cons (pe_op op_sub (pe_un un_neg pe_int) (pe_ix (r := rIxL K) ix_list (pv 1) pe_int (fun _ _ => rfl))) pa_nil))))))) (pg_name (i := 12) sc_law.nd rfl (Or.inl rfl)) (pss_one (ps_if (pt_not (pt_val (pe_call G_law_bad_size (hr.mono (by decide)) rfl D_law_bad_size.g D_law_bad_size.F.kp D_law_bad_size.b .nil pass0 (pa_cons (pv 11) (pa_cons (pv 12) pa_nil))))) (pss_one (ps_ret pe_bl)) pss_nil)))))
      ht), ?_⟩
  rintro σ H1 ⟨dl, sl, shl, nl, ds, ⟨c5, c6, c7, c8, c9, c10, c11, c12, c13, c14, c15, rfl⟩, hL⟩
  try simp (maxSteps := 1000000) only [tSeq, tIfS, tTest, tOp, tUn, tCB, tCons, tNil, tVar, tC, rI0, rI, rU, rEq, rNe, tRet, tRetN, tAsg, gName, gSub, tBM, tBM0, tNext, tB, tNot, tAnd, tOr, tIf, tCall, tDrop, tBreak, tCont, L2.start, tDGet, sDPut, tTup, tLst, tDNewK, tRevL, rCat, rAppend, rPop, rSetL, tAndV, tOrV, tNotV, tSl, tPart, tNoPart, tM1, gTup, gCons, gNil, cxK, cxnK, List.map_cons, List.map_nil, List.length_cons, List.length_nil, List.replicate, List.cons_append, List.nil_append, List.append_nil, List.set_cons_zero, List.set_cons_succ, List.getElem?_cons_zero, List.getElem?_cons_succ, Option.some.injEq, V.ref.injEq, V.int.injEq, V.str.injEq, V.bl.injEq, V.ty.injEq, exists_eq_left', exists_eq_left, exists_and_left, List.cons.injEq, and_true, true_and, sc_ii, sc_ss, sc_bb, sc_ni, sc_in, sc_is, sc_si, sc_nn, decide_true, decide_false, reduceCtorEq, Bool.false_eq_true, if_true, if_false, ite_true, ite_false, exists_const, eq_self, false_and, and_false, or_false, false_or, exists_false, Evl.rLenS, rSum, wipe, tYes, exists_eq, exists_eq', rIxL, rIxT, rIxS, exists_and_right, gt_iff_lt, not_true_eq_false, not_false_eq_true, Bool.not_true, Bool.not_false, decide_eq_true_eq, Nat.reduceSub, Nat.reduceAdd, List.append_assoc, tChain, tDIn, tDNotIn, sDDel, tAug, ipI]
  have d4 : ∃ d : Int, ds[4]? = some d ∧ 0 ≤ d := by
    have l : 4 < ds.length := by rw [hL.dk.1]; decide
    exact ⟨ds[4], List.getElem?_eq_getElem l, (hL.dk.2 4 _ 1000000000 (List.getElem?_eq_getElem l) rfl).1⟩
  obtain ⟨d4, e4, d40⟩ := d4
  refine forRg 8 (fun j σ H' => SX a dl sl shl nl σ ∧ LS K c a dl sl shl nl ns ds H') (fun R q' => q') (by decide) (by decide) ⟨⟨_, _, _, _, _, _, _, _, _, _, _, rfl⟩, hL⟩ ?_ ?_
  · rintro j σ H2 hj ⟨⟨c5, c6, c7, c8, c9, c10, c11, c12, c13, c14, c15, rfl⟩, hL⟩
    try simp (maxSteps := 1000000) only [tSeq, tIfS, tTest, tOp, tUn, tCB, tCons, tNil, tVar, tC, rI0, rI, rU, rEq, rNe, tRet, tRetN, tAsg, gName, gSub, tBM, tBM0, tNext, tB, tNot, tAnd, tOr, tIf, tCall, tDrop, tBreak, tCont, L2.start, tDGet, sDPut, tTup, tLst, tDNewK, tRevL, rCat, rAppend, rPop, rSetL, tAndV, tOrV, tNotV, tSl, tPart, tNoPart, tM1, gTup, gCons, gNil, cxK, cxnK, List.map_cons, List.map_nil, List.length_cons, List.length_nil, List.replicate, List.cons_append, List.nil_append, List.append_nil, List.set_cons_zero, List.set_cons_succ, List.getElem?_cons_zero, List.getElem?_cons_succ, Option.some.injEq, V.ref.injEq, V.int.injEq, V.str.injEq, V.bl.injEq, V.ty.injEq, exists_eq_left', exists_eq_left, exists_and_left, List.cons.injEq, and_true, true_and, sc_ii, sc_ss, sc_bb, sc_ni, sc_in, sc_is, sc_si, sc_nn, decide_true, decide_false, reduceCtorEq, Bool.false_eq_true, if_true, if_false, ite_true, ite_false, exists_const, eq_self, false_and, and_false, or_false, false_or, exists_false, Evl.rLenS, rSum, wipe, tYes, exists_eq, exists_eq', rIxL, rIxT, rIxS, exists_and_right, gt_iff_lt, not_true_eq_false, not_false_eq_true, Bool.not_true, Bool.not_false, decide_eq_true_eq, Nat.reduceSub, Nat.reduceAdd, List.append_assoc, tChain, tDIn, tDNotIn, sDDel, tAug, ipI]
    refine forLD (fun p H3 => H3 p = some (.lst (([0, 10, -1, 10 + d4, -1 - d4] : List Int).map V.int)) ∧ Kp [] H2 H3) (fun R hR => ?_) fun p H3 ⟨hp, k3⟩ => ?_
    · try simp (maxSteps := 1000000) only [tSeq, tIfS, tTest, tOp, tUn, tCB, tCons, tNil, tVar, tC, rI0, rI, rU, rEq, rNe, tRet, tRetN, tAsg, gName, gSub, tBM, tBM0, tNext, tB, tNot, tAnd, tOr, tIf, tCall, tDrop, tBreak, tCont, L2.start, tDGet, sDPut, tTup, tLst, tDNewK, tRevL, rCat, rAppend, rPop, rSetL, tAndV, tOrV, tNotV, tSl, tPart, tNoPart, tM1, gTup, gCons, gNil, cxK, cxnK, List.map_cons, List.map_nil, List.length_cons, List.length_nil, List.replicate, List.cons_append, List.nil_append, List.append_nil, List.set_cons_zero, List.set_cons_succ, List.getElem?_cons_zero, List.getElem?_cons_succ, Option.some.injEq, V.ref.injEq, V.int.injEq, V.str.injEq, V.bl.injEq, V.ty.injEq, exists_eq_left', exists_eq_left, exists_and_left, List.cons.injEq, and_true, true_and, sc_ii, sc_ss, sc_bb, sc_ni, sc_in, sc_is, sc_si, sc_nn, decide_true, decide_false, reduceCtorEq, Bool.false_eq_true, if_true, if_false, ite_true, ite_false, exists_const, eq_self, false_and, and_false, or_false, false_or, exists_false, Evl.rLenS, rSum, wipe, tYes, exists_eq, exists_eq', rIxL, rIxT, rIxS, exists_and_right, gt_iff_lt, not_true_eq_false, not_false_eq_true, Bool.not_true, Bool.not_false, decide_eq_true_eq, Nat.reduceSub, Nat.reduceAdd, List.append_assoc, tChain, tDIn, tDNotIn, sDDel, tAug, ipI]
      have ad : atI (ds.map V.int) 4 = some (.int d4) := atI_of (by decide) (by rw [List.getElem?_map, show (4 : Int).toNat = 4 from rfl, e4]; rfl)
      exact ⟨_, sq_l hL.hd, .int d4, ad, d4, rfl, _, sq_l hL.hd, .int d4, ad, d4, rfl, by decide, fun p np => hR _ _ ⟨upd_same, Kp.new np⟩⟩
    refine ⟨p, rfl, ⟨_, sq_l hp⟩, for_list (K := K) (a := p) (xs := ([0, 10, -1, 10 + d4, -1 - d4] : List Int).map V.int) (fun i σ H' => (∃ c5 c6 c7 c8 c9 c10 c12 c13 c14 c15 : Option V, σ = [some (.ref a), some (.ref dl), some (.ref sl), some (.ref shl), some (.ref nl), c5, c6, c7, c8, c9, c10, some (.int (j : Nat)), c12, c13, c14, c15]) ∧ Kp [] H3 H') ⟨⟨_, _, _, _, _, _, _, _, _, _, rfl⟩, Kp.refl _ _⟩ (fun i σ H' _ h => h.2.ls not0 (sq_l hp)) ?_ ?_⟩
    · rintro i x σ H4 hx ⟨⟨c5, c6, c7, c8, c9, c10, c12, c13, c14, c15, rfl⟩, k4⟩
      obtain ⟨n, nm, rfl⟩ : ∃ n, n ∈ ([0, 10, -1, 10 + d4, -1 - d4] : List Int) ∧ V.int n = x := List.mem_map.mp (List.mem_of_getElem? hx)
      have hn : ¬ (1 ≤ n ∧ n ≤ 9) := by
        simp only [List.mem_cons, List.not_mem_nil, or_false] at nm
        omega
      try simp (maxSteps := 1000000) only [tSeq, tIfS, tTest, tOp, tUn, tCB, tCons, tNil, tVar, tC, rI0, rI, rU, rEq, rNe, tRet, tRetN, tAsg, gName, gSub, tBM, tBM0, tNext, tB, tNot, tAnd, tOr, tIf, tCall, tDrop, tBreak, tCont, L2.start, tDGet, sDPut, tTup, tLst, tDNewK, tRevL, rCat, rAppend, rPop, rSetL, tAndV, tOrV, tNotV, tSl, tPart, tNoPart, tM1, gTup, gCons, gNil, cxK, cxnK, List.map_cons, List.map_nil, List.length_cons, List.length_nil, List.replicate, List.cons_append, List.nil_append, List.append_nil, List.set_cons_zero, List.set_cons_succ, List.getElem?_cons_zero, List.getElem?_cons_succ, Option.some.injEq, V.ref.injEq, V.int.injEq, V.str.injEq, V.bl.injEq, V.ty.injEq, exists_eq_left', exists_eq_left, exists_and_left, List.cons.injEq, and_true, true_and, sc_ii, sc_ss, sc_bb, sc_ni, sc_in, sc_is, sc_si, sc_nn, decide_true, decide_false, reduceCtorEq, Bool.false_eq_true, if_true, if_false, ite_true, ite_false, exists_const, eq_self, false_and, and_false, or_false, false_or, exists_false, Evl.rLenS, rSum, wipe, tYes, exists_eq, exists_eq', rIxL, rIxT, rIxS, exists_and_right, gt_iff_lt, not_true_eq_false, not_false_eq_true, Bool.not_true, Bool.not_false, decide_eq_true_eq, Nat.reduceSub, Nat.reduceAdd, List.append_assoc, tChain, tDIn, tDNotIn, sDDel, tAug, ipI]
      refine ⟨j, n, rfl, hj, hn, fun H5 k5 => ?_⟩
      try simp (maxSteps := 1000000) only [tSeq, tIfS, tTest, tOp, tUn, tCB, tCons, tNil, tVar, tC, rI0, rI, rU, rEq, rNe, tRet, tRetN, tAsg, gName, gSub, tBM, tBM0, tNext, tB, tNot, tAnd, tOr, tIf, tCall, tDrop, tBreak, tCont, L2.start, tDGet, sDPut, tTup, tLst, tDNewK, tRevL, rCat, rAppend, rPop, rSetL, tAndV, tOrV, tNotV, tSl, tPart, tNoPart, tM1, gTup, gCons, gNil, cxK, cxnK, List.map_cons, List.map_nil, List.length_cons, List.length_nil, List.replicate, List.cons_append, List.nil_append, List.append_nil, List.set_cons_zero, List.set_cons_succ, List.getElem?_cons_zero, List.getElem?_cons_succ, Option.some.injEq, V.ref.injEq, V.int.injEq, V.str.injEq, V.bl.injEq, V.ty.injEq, exists_eq_left', exists_eq_left, exists_and_left, List.cons.injEq, and_true, true_and, sc_ii, sc_ss, sc_bb, sc_ni, sc_in, sc_is, sc_si, sc_nn, decide_true, decide_false, reduceCtorEq, Bool.false_eq_true, if_true, if_false, ite_true, ite_false, exists_const, eq_self, false_and, and_false, or_false, false_or, exists_false, Evl.rLenS, rSum, wipe, tYes, exists_eq, exists_eq', rIxL, rIxT, rIxS, exists_and_right, gt_iff_lt, not_true_eq_false, not_false_eq_true, Bool.not_true, Bool.not_false, decide_eq_true_eq, Nat.reduceSub, Nat.reduceAdd, List.append_assoc, tChain, tDIn, tDNotIn, sDDel, tAug, ipI]
      exact k4.trans k5
    · rintro σ H4 ⟨⟨c5, c6, c7, c8, c9, c10, c12, c13, c14, c15, rfl⟩, k4⟩
      exact ⟨⟨_, _, _, _, _, _, _, _, _, _, _, rfl⟩, hL.kp (k3.trans k4)⟩
  · rintro σ H2 ⟨hX, hL⟩
    exact hq _ _ ⟨dl, sl, shl, nl, ds, hX, hL⟩
end
end My

set_option Elab.async false
set_option linter.all false
set_option maxRecDepth 100000
set_option maxHeartbeats 4000000
namespace My
open PySem L2 NdefX StX ClX
/-- the rows that were handed out: lists of their own, as they may have been written -/
def RwF (H0 H : Hp) (r : Addr) (zs : List Str) (b : Nat) : Prop := H0 r = none ∧ ∃ kvs : List (Key × V), H r = some (.dK kvs) ∧ kvs.length = zs.length ∧ ∀ (i : Nat) (z : Str), zs[i]? = some z → ∃ l xs, kvs[i]? = some (Sum.inr z, .ref l) ∧ H0 l = none ∧ H l = some (.lst xs) ∧ 1 ≤ xs.length ∧ xs.length ≤ b
theorem RwF.get {H0 H : Hp} {r : Addr} {zs : List Str} {b : Nat} (h : RwF H0 H r zs b) (nd : zs.Nodup) {i : Nat} {z : Str} (ez : zs[i]? = some z) : ∃ kvs l xs, H r = some (.dK kvs) ∧ valV kvs (Sum.inr z) = some (.ref l) ∧ H0 l = none ∧ H l = some (.lst xs) ∧ 1 ≤ xs.length ∧ xs.length ≤ b := by
  obtain ⟨_, kvs, hd, hl, hv⟩ := h
  obtain ⟨l, xs, e2, n0, hl2, a, b⟩ := hv i z ez
  refine ⟨kvs, l, xs, hd, valV_mem ?_ (List.mem_of_getElem? e2), n0, hl2, a, b⟩
  rw [RwAt.keys (P := fun _ _ _ => True) hl fun i z e => by obtain ⟨l, xs, a, _⟩ := hv i z e; exact ⟨_, a, True.intro⟩]
  exact List.Pairwise.map (R := fun a b => a ≠ b) _ (fun a b h e => h (by cases e; rfl)) nd
theorem RwF.kp {H0 H H' : Hp} {r : Addr} {zs : List Str} {b : Nat} (h : RwF H0 H r zs b) (k : Kp [] H H') : RwF H0 H' r zs b := by
  obtain ⟨nr, kvs, hd, hl, hv⟩ := h
  refine ⟨nr, kvs, k _ _ not0 hd, hl, fun i z ez => ?_⟩
  obtain ⟨l, xs, e2, n0, hl2, a, b⟩ := hv i z ez
  exact ⟨l, xs, e2, n0, k _ _ not0 hl2, a, b⟩
theorem RwF.write {H0 H : Hp} {r l : Addr} {zs : List Str} {b b' : Nat} {us ws : List V} (h : RwF H0 H r zs b) (hl : H l = some (.lst us)) (hb : b ≤ b') (w1 : 1 ≤ ws.length) (w2 : ws.length ≤ b') : RwF H0 (upd H l (.lst ws)) r zs b' := by
  obtain ⟨nr, kvs, hd, hlen, hv⟩ := h
  have rl : r ≠ l := fun e => by rw [e, hl] at hd; cases hd
  refine ⟨nr, kvs, by rw [upd_ne rl]; exact hd, hlen, fun i z ez => ?_⟩
  obtain ⟨l', xs, e2, n0, hl2, a, b⟩ := hv i z ez
  by_cases e : l' = l
  · exact ⟨l', ws, e2, n0, by rw [e, upd_same], w1, w2⟩
  · exact ⟨l', xs, e2, n0, by rw [upd_ne e]; exact hl2, a, by omega⟩
theorem ixN_0 {n : Nat} (h : 1 ≤ n) : ixN n 0 = some 0 := by
  unfold ixN
  rw [if_pos (by omega), if_pos (by omega)]
  rfl
theorem dget {ds : List Int} (h : DrawOk bL ds) {i : Nat} {b : Int} (eb : bL[i]? = some b) : ∃ d : Nat, atI (ds.map V.int) (i : Nat) = some (.int (d : Nat)) ∧ (d : Int) < b := by
  have l : i < ds.length := by rw [h.1]; exact (List.getElem?_eq_some_iff.mp eb).1
  have e : ds[i]? = some ds[i] := List.getElem?_eq_getElem l
  obtain ⟨a, c⟩ := h.2 i _ _ e eb
  exact ⟨ds[i].toNat, atI_of (by omega) (by rw [Int.toNat_natCast, List.getElem?_map, e, show ((ds[i].toNat : Nat) : Int) = ds[i] by omega]; rfl), by omega⟩
section
variable {P : Program} {w : World} {K : PySem.W.Frag} {mg : Str → Option Value} {base : Heap}
theorem law_p4 (T : BtV mg) {f : Addr} {cdv : Value} {A : Around} {outer : List Env} {s : Shared} {H : Hp} {Q : VK} {E : XK} (hr : Room 12 (A.deeper (PyProof.Rows.envOfC "law" (defScope s_law) s.heap.objs.size f cdv)))
    {c : Nat → Addr} (SF : ShF P w K mg base c)
    {g1 : Addr} {gd1 : FuncData} (D_law_is_whole : Df K mg "_law_is_whole" s_law_is_whole ["_law_told", "_law_due"] g1 gd1) (G_law_is_whole : FnOk P w K mg base CX0 1 g1 gd1 ["_law_told", "_law_due"] spWhole)
    {g2 : Addr} {gd2 : FuncData} (D_law_right : Df K mg "_law_right" s_law_right ["_law_rows", "_law_names_here", "_law_size"] g2 gd2) (G_law_right : FnOk P w K mg base CX0 3 g2 gd2 ["_law_rows", "_law_names_here", "_law_size"] spRight)
    {g3 : Addr} {gd3 : FuncData} (D_law_kin : Df K mg "_law_kin" s_law_kin ["_law_shape", "_law_names_here"] g3 gd3) (G_law_kin : FnOk P w K mg base CX0 1 g3 gd3 ["_law_shape", "_law_names_here"] (spKin c))
    {a : Addr} {ns : List Int} {t : TS} (ht : PSs (cxOf CX0 P w K mg base ["_law_script", "_law_d", "_law_sizes", "_law_shapes", "_law_names_here", "_law_turn", "_law_k", "_law_shape", "_law_told", "_law_name", "_law_row", "_law_which", "_law_size", "_law_calls", "_law_spot", "_law_cell"] "law" (defScope s_law) f cdv A outer s H E).nox ((defBody s_law).drop 5) t) (hq : ∀ σ H9, SL K c a ns σ H9 → t { nx := fun _ H' => Q .non H', rt := Q } σ H9) :
    ∃ t, PSs (cxOf CX0 P w K mg base ["_law_script", "_law_d", "_law_sizes", "_law_shapes", "_law_names_here", "_law_turn", "_law_k", "_law_shape", "_law_told", "_law_name", "_law_row", "_law_which", "_law_size", "_law_calls", "_law_spot", "_law_cell"] "law" (defScope s_law) f cdv A outer s H E).nox ((defBody s_law).drop 4) t ∧ ∀ σ H9, SL K c a ns σ H9 → t { nx := fun _ H' => Q .non H', rt := Q } σ H9 := by
  have hu := hu_of hr
  refine ⟨_, (pss_cons (ps_for PassesOwn.never rfl (pi_range1 rfl T.b_range (pa_cons pe_int pa_nil)) (pg_name (i := 5) sc_law.nd rfl (Or.inl rfl)) (pss_cons (ps_set (i := 6) sc_law.nd rfl (Or.inr rfl) (pe_op op_mod (pe_callTy (T := "int") call_int1 (by rfl) T.b_int (by decide +kernel) (pa_cons (pv 5) pa_nil)) pe_int))
      (pss_cons (ps_set (i := 7) sc_law.nd rfl (Or.inl rfl) (pe_ix (r := rIxL K) ix_list (pv 3) (pv 6) (fun _ _ => rfl)))
      (pss_cons (ps_set (i := 8) sc_law.nd rfl (Or.inl rfl) (pe_rows SF (hr.mono (by decide)) (pv 7)))
      (pss_cons (ps_if (PW.pt (pw_or (pt_not (pt_val (pe_call (k := 1) G_law_is_whole (hr.mono (by decide)) rfl D_law_is_whole.g D_law_is_whole.F.kp D_law_is_whole.b .nil pass0 (pa_cons (pe_fld (pv 7) rfl) (pa_cons (pe_ix (r := rIxL K) ix_list (pv 2) (pv 6) (fun _ _ => rfl)) pa_nil))))) (pw_or1 (pt_not (pt_val (pe_call G_law_right (hr.mono (by decide)) rfl D_law_right.g D_law_right.F.kp D_law_right.b .nil pass0 (pa_cons (pv 8) (pa_cons (pe_ix (r := rIxL K) ix_list (pv 4) (pv 6) (fun _ _ => rfl)) (pa_cons (pe_ix (r := rIxL K) ix_list (pv 2) (pv 6) (fun _ _ => rfl)) pa_nil))))))))) (pss_one (ps_ret pe_bl)) pss_nil)
      (pss_cons (ps_for PassesOwn.never rfl (pi_list (pe_ix (r := rIxL K) ix_list (pv 4) (pv 6) (fun _ _ => rfl))) (pg_name (i := 9) sc_law.nd rfl (Or.inl rfl)) (pss_cons (ps_set (i := 10) sc_law.nd rfl (Or.inl rfl) (pe_dget hu (pv 8) (pv 9) (fun _ _ => rfl)))
      (pss_cons (ps_asg (pe_tup (pa_cons pe_int (pa_cons pe_int pa_nil))) (pg_sub (pv 10) pe_int set_list))
      (pss_one (ps_expr (pe_bm PySem.F.plainAttrs_list PySem.F.slot_list_append PySem.F.type_list_append mt_append (pv 10) (pa_cons (pe_tup (pa_cons pe_int (pa_cons pe_int pa_nil))) pa_nil)))))))
      (pss_cons (ps_dput hu (pv 8) pe_str (pe_lst pa_nil) rfl)
      (pss_one (ps_if (pt_not (pt_val (pe_call G_law_kin (hr.mono (by decide)) rfl D_law_kin.g D_law_kin.F.kp D_law_kin.b .nil pass0 (pa_cons (pv 7) (pa_cons (pe_ix (r := rIxL K) ix_list (pv 4) (pv 6) (fun _ _ => rfl)) pa_nil))))) (pss_one (ps_ret pe_bl)) pss_nil)))))))))
      ht), ?_⟩
  rintro σ H1 ⟨dl, sl, shl, nl, ds, ⟨c5, c6, c7, c8, c9, c10, c11, c12, c13, c14, c15, rfl⟩, hL⟩
  try simp (maxSteps := 1000000) only [tSeq, tIfS, tTest, tOp, tUn, tCB, tCons, tNil, tVar, tC, rI0, rI, rU, rEq, rNe, tRet, tRetN, tAsg, gName, gSub, tBM, tBM0, tNext, tB, tNot, tAnd, tOr, tIf, tCall, tDrop, tBreak, tCont, L2.start, tDGet, sDPut, tTup, tLst, tDNewK, tRevL, rCat, rAppend, rPop, rSetL, tAndV, tOrV, tNotV, tSl, tPart, tNoPart, tM1, gTup, gCons, gNil, cxK, cxnK, List.map_cons, List.map_nil, List.length_cons, List.length_nil, List.replicate, List.cons_append, List.nil_append, List.append_nil, List.set_cons_zero, List.set_cons_succ, List.getElem?_cons_zero, List.getElem?_cons_succ, Option.some.injEq, V.ref.injEq, V.int.injEq, V.str.injEq, V.bl.injEq, V.ty.injEq, exists_eq_left', exists_eq_left, exists_and_left, List.cons.injEq, and_true, true_and, sc_ii, sc_ss, sc_bb, sc_ni, sc_in, sc_is, sc_si, sc_nn, decide_true, decide_false, reduceCtorEq, Bool.false_eq_true, if_true, if_false, ite_true, ite_false, exists_const, eq_self, false_and, and_false, or_false, false_or, exists_false, Evl.rLenS, rSum, wipe, tYes, exists_eq, exists_eq', rIxL, rIxT, rIxS, exists_and_right, gt_iff_lt, not_true_eq_false, not_false_eq_true, Bool.not_true, Bool.not_false, decide_eq_true_eq, Nat.reduceSub, Nat.reduceAdd, List.append_assoc, tChain, tDIn, tDNotIn, sDDel, tAug, ipI]
  refine forRg 4 (fun j σ H' => SX a dl sl shl nl σ ∧ LS K c a dl sl shl nl ns ds H') (fun R q' => q') (by decide) (by decide) ⟨⟨_, _, _, _, _, _, _, _, _, _, _, rfl⟩, hL⟩ ?_ ?_
  · rintro j σ H2 hj ⟨⟨c5, c6, c7, c8, c9, c10, c11, c12, c13, c14, c15, rfl⟩, hL⟩
    try simp (maxSteps := 1000000) only [tSeq, tIfS, tTest, tOp, tUn, tCB, tCons, tNil, tVar, tC, rI0, rI, rU, rEq, rNe, tRet, tRetN, tAsg, gName, gSub, tBM, tBM0, tNext, tB, tNot, tAnd, tOr, tIf, tCall, tDrop, tBreak, tCont, L2.start, tDGet, sDPut, tTup, tLst, tDNewK, tRevL, rCat, rAppend, rPop, rSetL, tAndV, tOrV, tNotV, tSl, tPart, tNoPart, tM1, gTup, gCons, gNil, cxK, cxnK, List.map_cons, List.map_nil, List.length_cons, List.length_nil, List.replicate, List.cons_append, List.nil_append, List.append_nil, List.set_cons_zero, List.set_cons_succ, List.getElem?_cons_zero, List.getElem?_cons_succ, Option.some.injEq, V.ref.injEq, V.int.injEq, V.str.injEq, V.bl.injEq, V.ty.injEq, exists_eq_left', exists_eq_left, exists_and_left, List.cons.injEq, and_true, true_and, sc_ii, sc_ss, sc_bb, sc_ni, sc_in, sc_is, sc_si, sc_nn, decide_true, decide_false, reduceCtorEq, Bool.false_eq_true, if_true, if_false, ite_true, ite_false, exists_const, eq_self, false_and, and_false, or_false, false_or, exists_false, Evl.rLenS, rSum, wipe, tYes, exists_eq, exists_eq', rIxL, rIxT, rIxS, exists_and_right, gt_iff_lt, not_true_eq_false, not_false_eq_true, Bool.not_true, Bool.not_false, decide_eq_true_eq, Nat.reduceSub, Nat.reduceAdd, List.append_assoc, tChain, tDIn, tDNotIn, sDDel, tAug, ipI]
    refine ⟨by decide, ?_⟩
    have k0 : (0 : Int) ≤ (j : Int) % 2 := by omega
    have k2 : (j : Int) % 2 < 2 := by omega
    generalize hk : (j : Int) % 2 = k at k0 k2 ⊢
    obtain ⟨o, n, u, m, xs, ys, ss, hsh, ao, hnl, an, hsl, am, ⟨dx, ho⟩, hn, hw, m1, m9⟩ := hL.at k0 k2
    have nd := nmS_nd u hw
    refine ⟨xs, hsh, .ref o, ao, ?_⟩
    try simp (maxSteps := 1000000) only [tSeq, tIfS, tTest, tOp, tUn, tCB, tCons, tNil, tVar, tC, rI0, rI, rU, rEq, rNe, tRet, tRetN, tAsg, gName, gSub, tBM, tBM0, tNext, tB, tNot, tAnd, tOr, tIf, tCall, tDrop, tBreak, tCont, L2.start, tDGet, sDPut, tTup, tLst, tDNewK, tRevL, rCat, rAppend, rPop, rSetL, tAndV, tOrV, tNotV, tSl, tPart, tNoPart, tM1, gTup, gCons, gNil, cxK, cxnK, List.map_cons, List.map_nil, List.length_cons, List.length_nil, List.replicate, List.cons_append, List.nil_append, List.append_nil, List.set_cons_zero, List.set_cons_succ, List.getElem?_cons_zero, List.getElem?_cons_succ, Option.some.injEq, V.ref.injEq, V.int.injEq, V.str.injEq, V.bl.injEq, V.ty.injEq, exists_eq_left', exists_eq_left, exists_and_left, List.cons.injEq, and_true, true_and, sc_ii, sc_ss, sc_bb, sc_ni, sc_in, sc_is, sc_si, sc_nn, decide_true, decide_false, reduceCtorEq, Bool.false_eq_true, if_true, if_false, ite_true, ite_false, exists_const, eq_self, false_and, and_false, or_false, false_or, exists_false, Evl.rLenS, rSum, wipe, tYes, exists_eq, exists_eq', rIxL, rIxT, rIxS, exists_and_right, gt_iff_lt, not_true_eq_false, not_false_eq_true, Bool.not_true, Bool.not_false, decide_eq_true_eq, Nat.reduceSub, Nat.reduceAdd, List.append_assoc, tChain, tDIn, tDNotIn, sDDel, tAug, ipI, tShRows, tMeth, tFld]
    refine ⟨u, hw, dx, _, ho, rfl, o, dx, m, rfl, ho, m1, m9, fun r H3 nr hR k3 => ?_⟩
    have ho3 := k3 _ _ not0 ho
    refine ⟨c u, dx, _, ho3, (SF.cl u hw).cl, (SF.cl u hw).n1, _, rfl, ss, k3.ls not0 hsl, .int (m : Nat), am, m, m, rfl, ?_⟩
    rw [decide_eq_true rfl]
    try simp (maxSteps := 1000000) only [tSeq, tIfS, tTest, tOp, tUn, tCB, tCons, tNil, tVar, tC, rI0, rI, rU, rEq, rNe, tRet, tRetN, tAsg, gName, gSub, tBM, tBM0, tNext, tB, tNot, tAnd, tOr, tIf, tCall, tDrop, tBreak, tCont, L2.start, tDGet, sDPut, tTup, tLst, tDNewK, tRevL, rCat, rAppend, rPop, rSetL, tAndV, tOrV, tNotV, tSl, tPart, tNoPart, tM1, gTup, gCons, gNil, cxK, cxnK, List.map_cons, List.map_nil, List.length_cons, List.length_nil, List.replicate, List.cons_append, List.nil_append, List.append_nil, List.set_cons_zero, List.set_cons_succ, List.getElem?_cons_zero, List.getElem?_cons_succ, Option.some.injEq, V.ref.injEq, V.int.injEq, V.str.injEq, V.bl.injEq, V.ty.injEq, exists_eq_left', exists_eq_left, exists_and_left, List.cons.injEq, and_true, true_and, sc_ii, sc_ss, sc_bb, sc_ni, sc_in, sc_is, sc_si, sc_nn, decide_true, decide_false, reduceCtorEq, Bool.false_eq_true, if_true, if_false, ite_true, ite_false, exists_const, eq_self, false_and, and_false, or_false, false_or, exists_false, Evl.rLenS, rSum, wipe, tYes, exists_eq, exists_eq', rIxL, rIxT, rIxS, exists_and_right, gt_iff_lt, not_true_eq_false, not_false_eq_true, Bool.not_true, Bool.not_false, decide_eq_true_eq, Nat.reduceSub, Nat.reduceAdd, List.append_assoc, tChain, tDIn, tDNotIn, sDDel, tAug, ipI]
    refine ⟨ys, k3.ls not0 hnl, .ref n, an, ss, k3.ls not0 hsl, .int (m : Nat), am, r, n, m, nmS u, rfl, hR.at, k3 _ _ not0 hn, nd.1, nd.2.1, nd.2.2, m1, m9, fun H4 k4 => ?_⟩
    try simp (maxSteps := 1000000) only [tSeq, tIfS, tTest, tOp, tUn, tCB, tCons, tNil, tVar, tC, rI0, rI, rU, rEq, rNe, tRet, tRetN, tAsg, gName, gSub, tBM, tBM0, tNext, tB, tNot, tAnd, tOr, tIf, tCall, tDrop, tBreak, tCont, L2.start, tDGet, sDPut, tTup, tLst, tDNewK, tRevL, rCat, rAppend, rPop, rSetL, tAndV, tOrV, tNotV, tSl, tPart, tNoPart, tM1, gTup, gCons, gNil, cxK, cxnK, List.map_cons, List.map_nil, List.length_cons, List.length_nil, List.replicate, List.cons_append, List.nil_append, List.append_nil, List.set_cons_zero, List.set_cons_succ, List.getElem?_cons_zero, List.getElem?_cons_succ, Option.some.injEq, V.ref.injEq, V.int.injEq, V.str.injEq, V.bl.injEq, V.ty.injEq, exists_eq_left', exists_eq_left, exists_and_left, List.cons.injEq, and_true, true_and, sc_ii, sc_ss, sc_bb, sc_ni, sc_in, sc_is, sc_si, sc_nn, decide_true, decide_false, reduceCtorEq, Bool.false_eq_true, if_true, if_false, ite_true, ite_false, exists_const, eq_self, false_and, and_false, or_false, false_or, exists_false, Evl.rLenS, rSum, wipe, tYes, exists_eq, exists_eq', rIxL, rIxT, rIxS, exists_and_right, gt_iff_lt, not_true_eq_false, not_false_eq_true, Bool.not_true, Bool.not_false, decide_eq_true_eq, Nat.reduceSub, Nat.reduceAdd, List.append_assoc, tChain, tDIn, tDNotIn, sDDel, tAug, ipI]
    have k24 := k3.trans k4
    have hF : RwF H2 H4 r (nmS u) 9 := by
      obtain ⟨_, kvs, e1, e2, e3⟩ := hR
      refine ⟨nr, kvs, k4 _ _ not0 e1, e2, fun i z ez => ?_⟩
      obtain ⟨v, ev, l, xs, rfl, n0, hl, hc⟩ := e3 i z ez
      exact ⟨l, xs, ev, n0, k4 _ _ not0 hl, by rw [hc.1]; exact m1, by rw [hc.1]; exact m9⟩
    refine forLD (fun p H' => p = n ∧ H' = H4) (fun R hR => ?_) fun p H' ⟨e1, e2⟩ => ?_
    · try simp (maxSteps := 1000000) only [tSeq, tIfS, tTest, tOp, tUn, tCB, tCons, tNil, tVar, tC, rI0, rI, rU, rEq, rNe, tRet, tRetN, tAsg, gName, gSub, tBM, tBM0, tNext, tB, tNot, tAnd, tOr, tIf, tCall, tDrop, tBreak, tCont, L2.start, tDGet, sDPut, tTup, tLst, tDNewK, tRevL, rCat, rAppend, rPop, rSetL, tAndV, tOrV, tNotV, tSl, tPart, tNoPart, tM1, gTup, gCons, gNil, cxK, cxnK, List.map_cons, List.map_nil, List.length_cons, List.length_nil, List.replicate, List.cons_append, List.nil_append, List.append_nil, List.set_cons_zero, List.set_cons_succ, List.getElem?_cons_zero, List.getElem?_cons_succ, Option.some.injEq, V.ref.injEq, V.int.injEq, V.str.injEq, V.bl.injEq, V.ty.injEq, exists_eq_left', exists_eq_left, exists_and_left, List.cons.injEq, and_true, true_and, sc_ii, sc_ss, sc_bb, sc_ni, sc_in, sc_is, sc_si, sc_nn, decide_true, decide_false, reduceCtorEq, Bool.false_eq_true, if_true, if_false, ite_true, ite_false, exists_const, eq_self, false_and, and_false, or_false, false_or, exists_false, Evl.rLenS, rSum, wipe, tYes, exists_eq, exists_eq', rIxL, rIxT, rIxS, exists_and_right, gt_iff_lt, not_true_eq_false, not_false_eq_true, Bool.not_true, Bool.not_false, decide_eq_true_eq, Nat.reduceSub, Nat.reduceAdd, List.append_assoc, tChain, tDIn, tDNotIn, sDDel, tAug, ipI]
      exact ⟨ys, k24.ls not0 hnl, .ref n, an, hR _ _ ⟨rfl, rfl⟩⟩
    subst e1 e2
    refine ⟨p, rfl, ⟨_, sq_l (k24 _ _ not0 hn)⟩, for_list (K := K) (a := p) (xs := (nmS u).map V.str) (fun i σ H' => (∃ c9 c10 c11 c12 c13 c14 c15 : Option V, σ = [some (.ref a), some (.ref dl), some (.ref sl), some (.ref shl), some (.ref nl), some (.int (j : Nat)), some (.int k), some (.ref o), some (.ref r), c9, c10, c11, c12, c13, c14, c15]) ∧ Kp [] H2 H' ∧ RwF H2 H' r (nmS u) (9 + i)) ⟨⟨_, _, _, _, _, _, _, rfl⟩, k24, hF⟩ (fun i σ H' _ h => h.2.1.ls not0 (sq_l hn)) ?_ ?_⟩
    · rintro i x σ H5 hx ⟨⟨c9, c10, c11, c12, c13, c14, c15, rfl⟩, k5, hF5⟩
      obtain ⟨z, ez, rfl⟩ : ∃ z, (nmS u)[i]? = some z ∧ V.str z = x := by
        rw [List.getElem?_map] at hx
        cases e : (nmS u)[i]? with
        | none => rw [e] at hx; cases hx
        | some z => rw [e] at hx; exact ⟨z, rfl, Option.some.inj hx⟩
      have hi : i < 3 := by have := (List.getElem?_eq_some_iff.mp ez).1; have := nd.2.2; omega
      obtain ⟨kvs, l, us, hd, ev, n0, hl, l1, l2⟩ := hF5.get nd.1 ez
      try simp (maxSteps := 1000000) only [tSeq, tIfS, tTest, tOp, tUn, tCB, tCons, tNil, tVar, tC, rI0, rI, rU, rEq, rNe, tRet, tRetN, tAsg, gName, gSub, tBM, tBM0, tNext, tB, tNot, tAnd, tOr, tIf, tCall, tDrop, tBreak, tCont, L2.start, tDGet, sDPut, tTup, tLst, tDNewK, tRevL, rCat, rAppend, rPop, rSetL, tAndV, tOrV, tNotV, tSl, tPart, tNoPart, tM1, gTup, gCons, gNil, cxK, cxnK, List.map_cons, List.map_nil, List.length_cons, List.length_nil, List.replicate, List.cons_append, List.nil_append, List.append_nil, List.set_cons_zero, List.set_cons_succ, List.getElem?_cons_zero, List.getElem?_cons_succ, Option.some.injEq, V.ref.injEq, V.int.injEq, V.str.injEq, V.bl.injEq, V.ty.injEq, exists_eq_left', exists_eq_left, exists_and_left, List.cons.injEq, and_true, true_and, sc_ii, sc_ss, sc_bb, sc_ni, sc_in, sc_is, sc_si, sc_nn, decide_true, decide_false, reduceCtorEq, Bool.false_eq_true, if_true, if_false, ite_true, ite_false, exists_const, eq_self, false_and, and_false, or_false, false_or, exists_false, Evl.rLenS, rSum, wipe, tYes, exists_eq, exists_eq', rIxL, rIxT, rIxS, exists_and_right, gt_iff_lt, not_true_eq_false, not_false_eq_true, Bool.not_true, Bool.not_false, decide_eq_true_eq, Nat.reduceSub, Nat.reduceAdd, List.append_assoc, tChain, tDIn, tDNotIn, sDDel, tAug, ipI]
      have two : (2 : Nat) ≤ sizeLine := by rw [sizeLine_eq]; decide
      refine ⟨.ref l, .inl ⟨kvs, Sum.inr z, .inl hd, rfl, ev.symm⟩, two, fun p1 np1 => ?_⟩
      have kA : Kp [] H5 (upd H5 p1 (.tup [.int 9, .int 0])) := Kp.new np1
      have hlA := kA _ _ not0 hl
      have FA := hF5.kp kA
      have k2A := k5.trans kA
      generalize upd H5 p1 (.tup [.int 9, .int 0]) = HA at kA hlA FA k2A ⊢
      refine ⟨l, rfl, us, hlA, 0, ixN_0 l1, .inl ⟨rfl, _, sq_l upd_same⟩, two, fun p2 np2 => ?_⟩
      have FB := FA.write (ws := us.set 0 (.ref p1)) hlA (Nat.le_refl _) (by rw [List.length_set]; exact l1) (by rw [List.length_set]; exact l2)
      have k2B := k2A.wr (o := .lst (us.set 0 (.ref p1))) n0
      have hlB : upd HA l (.lst (us.set 0 (.ref p1))) l = some (.lst (us.set 0 (.ref p1))) := upd_same
      generalize upd HA l (.lst (us.set 0 (.ref p1))) = HB at np2 FB k2B hlB ⊢
      have kC : Kp [] HB (upd HB p2 (.tup [.int 0, .int 0])) := Kp.new np2
      refine ⟨l, rfl, us.set 0 (.ref p1), kC _ _ not0 hlB, smallL (by rw [List.length_set]; omega), (k2B.trans kC).wr n0, (FB.kp kC).write (kC _ _ not0 hlB) (by omega) (by simp) (by rw [List.length_append, List.length_set]; simp; omega)⟩
    · rintro σ H5 ⟨⟨c9, c10, c11, c12, c13, c14, c15, rfl⟩, k5, hF5⟩
      obtain ⟨nr, kvs, hd, hkl, _⟩ := hF5
      try simp (maxSteps := 1000000) only [tSeq, tIfS, tTest, tOp, tUn, tCB, tCons, tNil, tVar, tC, rI0, rI, rU, rEq, rNe, tRet, tRetN, tAsg, gName, gSub, tBM, tBM0, tNext, tB, tNot, tAnd, tOr, tIf, tCall, tDrop, tBreak, tCont, L2.start, tDGet, sDPut, tTup, tLst, tDNewK, tRevL, rCat, rAppend, rPop, rSetL, tAndV, tOrV, tNotV, tSl, tPart, tNoPart, tM1, gTup, gCons, gNil, cxK, cxnK, List.map_cons, List.map_nil, List.length_cons, List.length_nil, List.replicate, List.cons_append, List.nil_append, List.append_nil, List.set_cons_zero, List.set_cons_succ, List.getElem?_cons_zero, List.getElem?_cons_succ, Option.some.injEq, V.ref.injEq, V.int.injEq, V.str.injEq, V.bl.injEq, V.ty.injEq, exists_eq_left', exists_eq_left, exists_and_left, List.cons.injEq, and_true, true_and, sc_ii, sc_ss, sc_bb, sc_ni, sc_in, sc_is, sc_si, sc_nn, decide_true, decide_false, reduceCtorEq, Bool.false_eq_true, if_true, if_false, ite_true, ite_false, exists_const, eq_self, false_and, and_false, or_false, false_or, exists_false, Evl.rLenS, rSum, wipe, tYes, exists_eq, exists_eq', rIxL, rIxT, rIxS, exists_and_right, gt_iff_lt, not_true_eq_false, not_false_eq_true, Bool.not_true, Bool.not_false, decide_eq_true_eq, Nat.reduceSub, Nat.reduceAdd, List.append_assoc, tChain, tDIn, tDNotIn, sDDel, tAug, ipI, sDPut]
      refine ⟨by decide, fun p1 np1 => ?_⟩
      have kA : Kp [] H5 (upd H5 p1 (.lst [])) := Kp.new np1
      refine ⟨_, DPut.k (k := Sum.inr "odd") (kA _ _ not0 hd) (by rw [hkl]; exact smallL (by have := nd.2.2; omega)), ?_⟩
      have k2B := (k5.trans kA).wr (o := .dK (putK kvs (Sum.inr "odd") (.ref p1))) nr
      generalize upd (upd H5 p1 (.lst [])) r (.dK (putK kvs (Sum.inr "odd") (.ref p1))) = HB at k2B ⊢
      refine ⟨ys, k2B.ls not0 hnl, .ref p, an, o, u, dx, p, _, rfl, hw, k2B _ _ not0 ho, k2B _ _ not0 hn, fun H6 k6 => ⟨true, rfl, ?_⟩⟩
      rw [if_neg (by decide)]
      exact ⟨⟨_, _, _, _, _, _, _, _, _, _, _, rfl⟩, hL.kp (k2B.trans k6)⟩
  · rintro σ H2 ⟨hX, hL⟩
    exact hq _ _ ⟨dl, sl, shl, nl, ds, hX, hL⟩
theorem ok_law {f : Addr} {fd : FuncData} (D : Df K mg "law" s_law ["_law_script"] f fd) (T : BtV mg) {c : Nat → Addr} (SF : ShF P w K mg base c) {TC BN : Addr}
    {g1 : Addr} {gd1 : FuncData} (D_law_draws : Df K mg "_law_draws" s_law_draws ["_law_script", "_law_at", "_law_bounds"] g1 gd1) (G_law_draws : FnOk P w K mg base CX0 2 g1 gd1 ["_law_script", "_law_at", "_law_bounds"] (spDraws K))
    {g2 : Addr} {gd2 : FuncData} (D_law_make : Df K mg "_law_make" s_law_make ["_law_which", "_law_size"] g2 gd2) (G_law_make : FnOk P w K mg base (L2.CX P w) 6 g2 gd2 ["_law_which", "_law_size"] (spMake c BN))
    {g3 : Addr} {gd3 : FuncData} (D_law_names : Df K mg "_law_names" s_law_names ["_law_which"] g3 gd3) (G_law_names : FnOk P w K mg base CX0 1 g3 gd3 ["_law_which"] spNm)
    {g4 : Addr} {gd4 : FuncData} (D_law_is_whole : Df K mg "_law_is_whole" s_law_is_whole ["_law_told", "_law_due"] g4 gd4) (G_law_is_whole : FnOk P w K mg base CX0 1 g4 gd4 ["_law_told", "_law_due"] spWhole)
    {g5 : Addr} {gd5 : FuncData} (D_law_right : Df K mg "_law_right" s_law_right ["_law_rows", "_law_names_here", "_law_size"] g5 gd5) (G_law_right : FnOk P w K mg base CX0 3 g5 gd5 ["_law_rows", "_law_names_here", "_law_size"] spRight)
    {g6 : Addr} {gd6 : FuncData} (D_law_kin : Df K mg "_law_kin" s_law_kin ["_law_shape", "_law_names_here"] g6 gd6) (G_law_kin : FnOk P w K mg base CX0 1 g6 gd6 ["_law_shape", "_law_names_here"] (spKin c))
    {g7 : Addr} {gd7 : FuncData} (D_law_bad_size : Df K mg "_law_bad_size" s_law_bad_size ["_law_which", "_law_size"] g7 gd7) (G_law_bad_size : FnOk P w K mg base CX0 7 g7 gd7 ["_law_which", "_law_size"] spBadS)
    {g8 : Addr} {gd8 : FuncData} (D_law_table : Df K mg "_law_table" s_law_table ["_law_table_here", "_law_names_here", "_law_size", "_law_calls"] g8 gd8) (G_law_table : FnOk P w K mg base CX0 6 g8 gd8 ["_law_table_here", "_law_names_here", "_law_size", "_law_calls"] (spTbl TC))
    {g9 : Addr} {gd9 : FuncData} (D_table_of : Df K mg "table_of" s_table_of ["shape"] g9 gd9) (G_table_of : FnOk P w K mg base (L2.CX P w) 8 g9 gd9 ["shape"] (spTabOf c TC)) : FnOk P w K mg base CX0 13 f fd ["_law_script"] (spLaw K) := by
  refine D.F.ok sc_law (fun vs H Q E h => ?_) (fun cdv A outer s H vs Q E hr h => ?_)
  · obtain ⟨_, _, rfl, _⟩ := h
    rfl
  · obtain ⟨a, ns, rfl, hS, hl, q⟩ := h
    have hu := hu_of hr
    have hr12 : Room 12 (A.deeper (PyProof.Rows.envOfC "law" (defScope s_law) s.heap.objs.size f cdv)) := hr
    obtain ⟨t6, h6, q6⟩ := law_tail (P := P) (w := w) (K := K) (mg := mg) (base := base) (E := E) (H := H) (outer := outer) (TC := TC) (a := a) (ns := ns) T hr12 D_law_draws G_law_draws D_law_table G_law_table D_table_of G_table_of q
    obtain ⟨t5, h5, q5⟩ := law_p5 T hr12 D_law_bad_size G_law_bad_size h6 q6
    obtain ⟨t4, h4, q4⟩ := law_p4 T hr12 SF D_law_is_whole G_law_is_whole D_law_right G_law_right D_law_kin G_law_kin h5 q5
    refine ⟨_, (pss_cons (ps_set (i := 1) sc_law.nd rfl (Or.inl rfl) (pe_call G_law_draws (hr.mono (by decide)) rfl D_law_draws.g D_law_draws.F.kp D_law_draws.b .nil pass0 (pa_cons (pv 0) (pa_cons pe_int (pa_cons (pe_lst (pa_cons pe_int (pa_cons pe_int (pa_cons pe_int (pa_cons pe_int (pa_cons (pe_op op_pow pe_int pe_int) pa_nil)))))) pa_nil)))))
      (pss_cons (ps_set (i := 2) sc_law.nd rfl (Or.inl rfl) (pe_lst (pa_cons (pe_op op_add pe_int (pe_ix (r := rIxL K) ix_list (pv 1) pe_int (fun _ _ => rfl))) (pa_cons (pe_op op_add pe_int (pe_ix (r := rIxL K) ix_list (pv 1) pe_int (fun _ _ => rfl))) pa_nil))))
      (pss_cons (ps_set (i := 3) sc_law.nd rfl (Or.inl rfl) (pe_lst (pa_cons (pe_call (k := 6) G_law_make (hr.mono (by decide)) rfl D_law_make.g D_law_make.F.kp D_law_make.b .nil passL (pa_cons (pe_ix (r := rIxL K) ix_list (pv 1) pe_int (fun _ _ => rfl)) (pa_cons (pe_ix (r := rIxL K) ix_list (pv 2) pe_int (fun _ _ => rfl)) pa_nil))) (pa_cons (pe_call (k := 6) G_law_make (hr.mono (by decide)) rfl D_law_make.g D_law_make.F.kp D_law_make.b .nil passL (pa_cons (pe_ix (r := rIxL K) ix_list (pv 1) pe_int (fun _ _ => rfl)) (pa_cons (pe_ix (r := rIxL K) ix_list (pv 2) pe_int (fun _ _ => rfl)) pa_nil))) pa_nil))))
      (pss_cons (ps_set (i := 4) sc_law.nd rfl (Or.inr rfl) (pe_lst (pa_cons (pe_call G_law_names (hr.mono (by decide)) rfl D_law_names.g D_law_names.F.kp D_law_names.b .nil pass0 (pa_cons (pe_ix (r := rIxL K) ix_list (pv 1) pe_int (fun _ _ => rfl)) pa_nil)) (pa_cons (pe_call G_law_names (hr.mono (by decide)) rfl D_law_names.g D_law_names.F.kp D_law_names.b .nil pass0 (pa_cons (pe_ix (r := rIxL K) ix_list (pv 1) pe_int (fun _ _ => rfl)) pa_nil)) pa_nil))))
      h4)))), ?_⟩
    try simp (maxSteps := 1000000) only [tSeq, tIfS, tTest, tOp, tUn, tCB, tCons, tNil, tVar, tC, rI0, rI, rU, rEq, rNe, tRet, tRetN, tAsg, gName, gSub, tBM, tBM0, tNext, tB, tNot, tAnd, tOr, tIf, tCall, tDrop, tBreak, tCont, L2.start, tDGet, sDPut, tTup, tLst, tDNewK, tRevL, rCat, rAppend, rPop, rSetL, tAndV, tOrV, tNotV, tSl, tPart, tNoPart, tM1, gTup, gCons, gNil, cxK, cxnK, List.map_cons, List.map_nil, List.length_cons, List.length_nil, List.replicate, List.cons_append, List.nil_append, List.append_nil, List.set_cons_zero, List.set_cons_succ, List.getElem?_cons_zero, List.getElem?_cons_succ, Option.some.injEq, V.ref.injEq, V.int.injEq, V.str.injEq, V.bl.injEq, V.ty.injEq, exists_eq_left', exists_eq_left, exists_and_left, List.cons.injEq, and_true, true_and, sc_ii, sc_ss, sc_bb, sc_ni, sc_in, sc_is, sc_si, sc_nn, decide_true, decide_false, reduceCtorEq, Bool.false_eq_true, if_true, if_false, ite_true, ite_false, exists_const, eq_self, false_and, and_false, or_false, false_or, exists_false, Evl.rLenS, rSum, wipe, tYes, exists_eq, exists_eq', rIxL, rIxT, rIxS, exists_and_right, gt_iff_lt, not_true_eq_false, not_false_eq_true, Bool.not_true, Bool.not_false, decide_eq_true_eq, Nat.reduceSub, Nat.reduceAdd, List.append_assoc, tChain, tDIn, tDNotIn, sDDel, tAug, ipI]
    have p9 : CPow 10 9 := ⟨by decide, by decide, by decide⟩
    refine ⟨p9, by decide, fun p np => ?_⟩
    have k1 : Kp [] H (upd H p (.lst (bL.map V.int))) := Kp.new np
    refine ⟨a, p, 0, ns, bL, rfl, ⟨k1.ls not0 hS, hl⟩, by decide, upd_same, by decide, by decide, fun dl ds H2 ndl hdl hds k2 => ?_⟩
    have hS2 := (k1.trans k2).ls not0 hS
    obtain ⟨d0, a0, b0⟩ := dget hds (i := 0) rfl
    obtain ⟨d1, a1, b1⟩ := dget hds (i := 1) rfl
    obtain ⟨d2, a2, b2⟩ := dget hds (i := 2) rfl
    obtain ⟨d3, a3, b3⟩ := dget hds (i := 3) rfl
    refine ⟨dl, rfl, _, sq_l hdl, _, a1, (d1 : Nat), rfl, dl, rfl, _, sq_l hdl, _, a3, (d3 : Nat), rfl, by decide, fun sl nsl => ?_⟩
    have k3 : Kp [] H2 (upd H2 sl (.lst [.int (1 + (d1 : Nat)), .int (1 + (d3 : Nat))])) := Kp.new nsl
    have hsl : upd H2 sl (.lst [.int (1 + (d1 : Nat)), .int (1 + (d3 : Nat))]) sl = some (.lst [.int (((1 + d1 : Nat)) : Int), .int (((1 + d3 : Nat)) : Int)]) := by rw [upd_same]; rfl
    generalize upd H2 sl (.lst [.int (1 + (d1 : Nat)), .int (1 + (d3 : Nat))]) = H3 at k3 hsl ⊢
    refine ⟨dl, rfl, _, sq_l (k3 _ _ not0 hdl), _, a0, _, sq_l hsl, .int (((1 + d1 : Nat)) : Int), rfl, d0, _, rfl, by omega, fun _ _ o0 x0 H4 _ ho0 k4 => ?_, fun h => absurd ⟨by omega, by omega⟩ h⟩
    have k34 := k3.trans k4
    refine ⟨dl, rfl, _, sq_l (k34 _ _ not0 hdl), _, a2, _, sq_l (k4 _ _ not0 hsl), .int (((1 + d3 : Nat)) : Int), rfl, d2, _, rfl, by omega, fun _ _ o1 x1 H5 _ ho1 k5 => ?_, fun h => absurd ⟨by omega, by omega⟩ h⟩
    have k35 := k34.trans k5
    refine ⟨by decide, fun shl nshl => ?_⟩
    have k6 : Kp [] H5 (upd H5 shl (.lst [.ref o0, .ref o1])) := Kp.new nshl
    have hshl : upd H5 shl (.lst [.ref o0, .ref o1]) shl = some (.lst [.ref o0, .ref o1]) := upd_same
    generalize upd H5 shl (.lst [.ref o0, .ref o1]) = H6 at k6 hshl ⊢
    have k36 := k35.trans k6
    refine ⟨dl, rfl, _, sq_l (k36 _ _ not0 hdl), _, a0, d0, rfl, by omega, fun n0 H7 hn0 k7 => ?_⟩
    have k37 := k36.trans k7
    refine ⟨dl, rfl, _, sq_l (k37 _ _ not0 hdl), _, a2, d2, rfl, by omega, fun n1 H8 hn1 k8 => ?_⟩
    have k38 := k37.trans k8
    refine ⟨by decide, fun nl nnl => ?_⟩
    have k9 : Kp [] H8 (upd H8 nl (.lst [.ref n0, .ref n1])) := Kp.new nnl
    have k39 := k38.trans k9
    have k69 := (k7.trans k8).trans k9
    refine q4 _ _ ⟨dl, sl, shl, nl, ds, ⟨_, _, _, _, _, _, _, _, _, _, _, rfl⟩, ⟨k39.ls not0 hS2, hl⟩, k39 _ _ not0 hdl, hds, o0, o1, n0, n1, d0, d2, 1 + d1, 1 + d3, ((k4.trans k5).trans (k6.trans k69)) _ _ not0 hsl, k69 _ _ not0 hshl, upd_same, ⟨⟨x0, (k5.trans (k6.trans k69)) _ _ not0 ho0⟩, (k8.trans k9) _ _ not0 hn0, by omega, by omega, by omega⟩, ⟨⟨x1, (k6.trans k69) _ _ not0 ho1⟩, k9 _ _ not0 hn1, by omega, by omega, by omega⟩⟩
end
end My

set_option Elab.async false
set_option linter.all false
set_option maxRecDepth 100000
set_option maxHeartbeats 4000000
namespace My
open PySem L2 NdefX StX ClX
def pick8 (a0 a1 a2 a3 a4 a5 a6 a7 : Addr) (i : Nat) : Addr := match i with
  | 0 => a0
  | 1 => a1
  | 2 => a2
  | 3 => a3
  | 4 => a4
  | 5 => a5
  | 6 => a6
  | _ => a7
theorem all8 {p : Nat → Prop} (h0 : p 0) (h1 : p 1) (h2 : p 2) (h3 : p 3) (h4 : p 4) (h5 : p 5) (h6 : p 6) (h7 : p 7) : ∀ i, i < 8 → p i := fun i hi => match i, hi with
  | 0, _ => h0
  | 1, _ => h1
  | 2, _ => h2
  | 3, _ => h3
  | 4, _ => h4
  | 5, _ => h5
  | 6, _ => h6
  | 7, _ => h7
  | i + 8, h => absurd h (by omega)
theorem all5 {p : Nat → Prop} (h0 : p 0) (h1 : p 1) (h2 : p 2) (h3 : p 3) (h4 : p 4) : ∀ i, i < 5 → p i := fun i hi => match i, hi with
  | 0, _ => h0
  | 1, _ => h1
  | 2, _ => h2
  | 3, _ => h3
  | 4, _ => h4
  | i + 5, h => absurd h (by omega)
section
variable {P : Program} {w : World} {K : PySem.W.Frag} {mg : Str → Option Value} {base : Heap}
/-- one class ahead: its rows, for the class C and its names -/
theorem nx_one {k j : Nat} {D C f : Addr} {fd : FuncData} {S : Addr → List Str → Prop} {nm : List Str} (N : Nxt K C D "rows" f) (B : Binds K fd ["self"] []) (F : FnOk P w K mg base CX0 j f fd ["self"] (spRw S)) (hj : j ≤ k) (hS : S C nm) :
    ∃ (f : Addr) (fd : FuncData) (sp : Sp), Nxt K C D "rows" f ∧ Binds K fd ["self"] [] ∧ FnOk P w K mg base CX0 k f fd ["self"] sp ∧
      ∀ (o dx : Addr) (m : Nat) (H : Hp) (Q : VK) (E : XK), H o = some (.ins C dx [("size", .int (m : Nat))]) → 1 ≤ m → m ≤ 9 → (∀ r H', H r = none → ShRows H H' r nm m → Kp [] H H' → Q (.ref r) H') → sp [.ref o] H Q E :=
  ⟨f, fd, _, N, B, F.mono hj, fun o dx m H Q E ho m1 m9 q => ⟨o, C, dx, m, nm, rfl, hS, ho, m1, m9, q⟩⟩
theorem rw_one {j : Nat} {C f : Addr} {fd : FuncData} {S : Addr → List Str → Prop} {nm : List Str} (M : Meth K C "rows" f) (B : Binds K fd ["self"] []) (F : FnOk P w K mg base CX0 j f fd ["self"] (spRw S)) (hj : j ≤ 5) (hS : S C nm) :
    ∃ (f : Addr) (fd : FuncData), Meth K C "rows" f ∧ Binds K fd ["self"] [] ∧ FnOk P w K mg base CX0 5 f fd ["self"] (spRow1 C nm) :=
  ⟨f, fd, M, B, (F.mono hj).imp fun vs H Q E h => by
    obtain ⟨o, dx, m, rfl, ho, m1, m9, q⟩ := h
    exact ⟨o, C, dx, m, nm, rfl, hS, ho, m1, m9, q⟩⟩
theorem shF_of {c f : Nat → Addr} (T : BtS mg) (CL : ∀ i, i < 8 → ClsS K (c i)) (DC : ∀ i, i < 8 → ∃ cd, PySem.W.clsIn K (c i) = some cd) (MR : ∀ i, i < 8 → Meth K (c i) "rows" (f i))
    {fd0 fd1 fd2 fd3 fd4 fd5 fd6 fd7 : FuncData} {cc1 cc2 cc3 cc4 cc5 cc6 cc7 cd1 cd2 cd3 cd4 cd5 cd6 cd7 : Addr}
    (F0 : Fun K "rows" "Shape.rows" s_Shape_rows (f 0) fd0) (B0 : Binds K fd0 ["self"] [])
    (F1 : FunX K "rows" "Looks.rows" s_Looks_rows (f 1) fd1 cc1 cd1 (c 1)) (G1 : CodeF K P cd1) (B1 : Binds K fd1 ["self"] [])
    (F2 : FunX K "rows" "Ups.rows" s_Ups_rows (f 2) fd2 cc2 cd2 (c 2)) (G2 : CodeF K P cd2) (B2 : Binds K fd2 ["self"] [])
    (F3 : FunX K "rows" "Tops.rows" s_Tops_rows (f 3) fd3 cc3 cd3 (c 3)) (G3 : CodeF K P cd3) (B3 : Binds K fd3 ["self"] [])
    (F4 : FunX K "rows" "Clears.rows" s_Clears_rows (f 4) fd4 cc4 cd4 (c 4)) (G4 : CodeF K P cd4) (B4 : Binds K fd4 ["self"] [])
    (F5 : FunX K "rows" "Ticket.rows" s_Ticket_rows (f 5) fd5 cc5 cd5 (c 5)) (G5 : CodeF K P cd5) (B5 : Binds K fd5 ["self"] [])
    (F6 : FunX K "rows" "Latch.rows" s_Latch_rows (f 6) fd6 cc6 cd6 (c 6)) (G6 : CodeF K P cd6) (B6 : Binds K fd6 ["self"] [])
    (F7 : FunX K "rows" "Meter.rows" s_Meter_rows (f 7) fd7 cc7 cd7 (c 7)) (G7 : CodeF K P cd7) (B7 : Binds K fd7 ["self"] [])
    (N44 : Nxt K (c 4) (c 4) "rows" (f 0)) (N64 : Nxt K (c 6) (c 4) "rows" (f 0)) (N74 : Nxt K (c 7) (c 4) "rows" (f 0)) (N22 : Nxt K (c 2) (c 2) "rows" (f 0)) (N52 : Nxt K (c 5) (c 2) "rows" (f 0)) (N72 : Nxt K (c 7) (c 2) "rows" (f 4)) (N33 : Nxt K (c 3) (c 3) "rows" (f 0)) (N63 : Nxt K (c 6) (c 3) "rows" (f 4))
    (N11 : Nxt K (c 1) (c 1) "rows" (f 0)) (N51 : Nxt K (c 5) (c 1) "rows" (f 2)) (N71 : Nxt K (c 7) (c 1) "rows" (f 2)) (N55 : Nxt K (c 5) (c 5) "rows" (f 1)) (N66 : Nxt K (c 6) (c 6) "rows" (f 3)) (N77 : Nxt K (c 7) (c 7) "rows" (f 1)) : ShF P w K mg base c := by
  have R0 := ok_Shape_rows (P := P) (w := w) (mg := mg) (base := base) F0
  have R4 := ok_Clears_rows (w := w) (base := base) (k := 1) F4 T G4 (DC 4 (by decide)) (by decide) (S := fun C nm => (C = c 4 ∨ C = c 6 ∨ C = c 7) ∧ nm = []) (fun C nm h => by rcases h.1 with e | e | e <;> (rw [e]; exact CL _ (by decide)))
    (fun C nm h => by
      obtain ⟨e | e | e, rfl⟩ := h <;> subst e
      · exact nx_one N44 B0 R0 (Nat.le_refl _) rfl
      · exact nx_one N64 B0 R0 (Nat.le_refl _) rfl
      · exact nx_one N74 B0 R0 (Nat.le_refl _) rfl)
  have R2 := ok_Ups_rows (w := w) (base := base) (k := 2) F2 T G2 (DC 2 (by decide)) (by decide) (S := fun C nm => (C = c 2 ∧ nm = []) ∨ (C = c 5 ∧ nm = []) ∨ (C = c 7 ∧ nm = (["clear"] : List Str))) (fun C nm h => by rcases h with ⟨e, _⟩ | ⟨e, _⟩ | ⟨e, _⟩ <;> (rw [e]; exact CL _ (by decide)))
    (fun C nm h => by
      obtain ⟨e, rfl⟩ | ⟨e, rfl⟩ | ⟨e, rfl⟩ := h <;> subst e
      · exact nx_one N22 B0 R0 (by decide) rfl
      · exact nx_one N52 B0 R0 (by decide) rfl
      · exact nx_one N72 B4 R4 (by decide) ⟨[], rfl, ⟨Or.inr (Or.inr rfl), rfl⟩, by simp, by simp⟩)
  have R3 := ok_Tops_rows (w := w) (base := base) (k := 2) F3 T G3 (DC 3 (by decide)) (by decide) (S := fun C nm => (C = c 3 ∧ nm = []) ∨ (C = c 6 ∧ nm = (["clear"] : List Str))) (fun C nm h => by rcases h with ⟨e, _⟩ | ⟨e, _⟩ <;> (rw [e]; exact CL _ (by decide)))
    (fun C nm h => by
      obtain ⟨e, rfl⟩ | ⟨e, rfl⟩ := h <;> subst e
      · exact nx_one N33 B0 R0 (by decide) rfl
      · exact nx_one N63 B4 R4 (by decide) ⟨[], rfl, ⟨Or.inr (Or.inl rfl), rfl⟩, by simp, by simp⟩)
  have R1 := ok_Looks_rows (w := w) (base := base) (k := 3) F1 T G1 (DC 1 (by decide)) (by decide) (S := fun C nm => (C = c 1 ∧ nm = []) ∨ (C = c 5 ∧ nm = (["up"] : List Str)) ∨ (C = c 7 ∧ nm = (["clear", "up"] : List Str))) (fun C nm h => by rcases h with ⟨e, _⟩ | ⟨e, _⟩ | ⟨e, _⟩ <;> (rw [e]; exact CL _ (by decide)))
    (fun C nm h => by
      obtain ⟨e, rfl⟩ | ⟨e, rfl⟩ | ⟨e, rfl⟩ := h <;> subst e
      · exact nx_one N11 B0 R0 (by decide) rfl
      · exact nx_one N51 B2 R2 (by decide) ⟨[], rfl, Or.inr (Or.inl ⟨rfl, rfl⟩), by simp, by simp⟩
      · exact nx_one N71 B2 R2 (by decide) ⟨["clear"], rfl, Or.inr (Or.inr ⟨rfl, rfl⟩), by decide +kernel, by simp⟩)
  have R5 := ok_Ticket_rows (w := w) (base := base) (k := 4) F5 T G5 (DC 5 (by decide)) (by decide) (S := fun C nm => C = c 5 ∧ nm = (["up", "look"] : List Str)) (fun C nm h => by rw [h.1]; exact CL _ (by decide))
    (fun C nm h => by
      obtain ⟨e, rfl⟩ := h; subst e
      exact nx_one N55 B1 R1 (by decide) ⟨["up"], rfl, Or.inr (Or.inl ⟨rfl, rfl⟩), by decide +kernel, by simp⟩)
  have R6 := ok_Latch_rows (w := w) (base := base) (k := 4) F6 T G6 (DC 6 (by decide)) (by decide) (S := fun C nm => C = c 6 ∧ nm = (["clear", "top"] : List Str)) (fun C nm h => by rw [h.1]; exact CL _ (by decide))
    (fun C nm h => by
      obtain ⟨e, rfl⟩ := h; subst e
      exact nx_one N66 B3 R3 (by decide) ⟨["clear"], rfl, Or.inr ⟨rfl, rfl⟩, by decide +kernel, by simp⟩)
  have R7 := ok_Meter_rows (w := w) (base := base) (k := 4) F7 T G7 (DC 7 (by decide)) (by decide) (S := fun C nm => C = c 7 ∧ nm = (["clear", "up", "look"] : List Str)) (fun C nm h => by rw [h.1]; exact CL _ (by decide))
    (fun C nm h => by
      obtain ⟨e, rfl⟩ := h; subst e
      exact nx_one N77 B1 R1 (by decide) ⟨["clear", "up"], rfl, Or.inr (Or.inr ⟨rfl, rfl⟩), by decide +kernel, by simp⟩)
  refine ⟨CL, fun i hi => ?_⟩
  match i, hi with
  | 0, h => exact rw_one (MR 0 h) B0 R0 (by decide) rfl
  | 1, h => exact rw_one (MR 1 h) B1 R1 (by decide) ⟨[], rfl, Or.inl ⟨rfl, rfl⟩, by simp, by simp⟩
  | 2, h => exact rw_one (MR 2 h) B2 R2 (by decide) ⟨[], rfl, Or.inl ⟨rfl, rfl⟩, by simp, by simp⟩
  | 3, h => exact rw_one (MR 3 h) B3 R3 (by decide) ⟨[], rfl, Or.inl ⟨rfl, rfl⟩, by simp, by simp⟩
  | 4, h => exact rw_one (MR 4 h) B4 R4 (by decide) ⟨[], rfl, ⟨Or.inl rfl, rfl⟩, by simp, by simp⟩
  | 5, h => exact rw_one (MR 5 h) B5 R5 (by decide) ⟨rfl, rfl⟩
  | 6, h => exact rw_one (MR 6 h) B6 R6 (by decide) ⟨rfl, rfl⟩
  | 7, h => exact rw_one (MR 7 h) B7 R7 (by decide) ⟨rfl, rfl⟩
  | i + 8, h => exact absurd h (by omega)
end
end My

set_option Elab.async false
set_option linter.all false
set_option maxRecDepth 100000
set_option maxHeartbeats 8000000
namespace My
open PySem L2 NdefX StX ClX
theorem exm_sub {K : PySem.W.Frag} {S D : Addr} {b : Bool} (h1 : PySem.W.subIn K (.ref D) (.type "BaseException") = some true) (h2 : PySem.W.isClsIn K D = true) (h3 : PySem.W.typeIn K (.ref D) = some (.type "type"))
    (h4 : PySem.W.subIn K (.ref S) (.ref D) = some b) : PySem.W.exmOne K (.ref S) (.ref D) = some b := by
  have i2 : (PySem.W.clsIn K D).isSome = true := h2
  unfold PySem.W.exmOne
  simp [PySem.W.kitCls, h1, i2, h3, h4]
theorem kit_self {K : PySem.W.Frag} {S : Addr} : PySem.W.kitOne K (.ref S) (.ref S) = some true := by
  unfold PySem.W.kitOne
  rw [if_pos (beq_self_eq_true _)]
theorem kit_sub {K : PySem.W.Frag} {S D : Addr} {b : Bool} (h1 : ((Value.ref S) == (Value.ref D)) = false) (h2 : PySem.W.isClsIn K D = true) (h3 : PySem.W.typeIn K (.ref D) = some (.type "type")) (h4 : PySem.W.subIn K (.ref S) (.ref D) = some b) : PySem.W.kitOne K (.ref S) (.ref D) = some b := by
  have i2 : (PySem.W.clsIn K D).isSome = true := h2
  unfold PySem.W.kitOne
  rw [h1]
  simp [PySem.W.kitCls, i2, h3, h4]
theorem kit_ty {K : PySem.W.Frag} {S : Addr} {T : String} {b : Bool} (h1 : PySem.W.kitMeta T = true) (h4 : PySem.W.subIn K (.ref S) (.type T) = some b) : PySem.W.kitOne K (.ref S) (.type T) = some b := by
  unfold PySem.W.kitOne
  rw [if_neg (by rw [show ((Value.ref S) == (Value.type T)) = false from beq_eq_false_iff_ne.mpr (fun z => nomatch z)]; exact Bool.false_ne_true)]
  simp [PySem.W.kitCls, h1, h4]
theorem all_mk {l : PySem.W.OpenLaw} {w : World} {K : PySem.W.Frag} {h : Heap} {mg : Str → Option Value} {fa : Addr} (X : K.In h) (G : h.Ns mainGlobals mg) (hfa : mg "law" = some (.ref fa))
    {f0 : Addr}
    {od0 an0 : Option Addr}
    {sl0 : Array (Option Value)}
    {oc0 kV0 dc0 pm0 cd0 ct0 : Value}
    {f1 : Addr}
    {od1 an1 : Option Addr}
    {sl1 : Array (Option Value)}
    {oc1 kV1 dc1 pm1 cd1 ct1 : Value}
    {f2 : Addr}
    {od2 an2 : Option Addr}
    {sl2 : Array (Option Value)}
    {oc2 kV2 dc2 pm2 cd2 ct2 : Value}
    {f3 : Addr}
    {od3 an3 : Option Addr}
    {sl3 : Array (Option Value)}
    {oc3 kV3 dc3 pm3 cd3 ct3 : Value}
    {f4 : Addr}
    {od4 an4 : Option Addr}
    {sl4 : Array (Option Value)}
    {oc4 kV4 dc4 pm4 cd4 ct4 : Value}
    {f5 : Addr}
    {od5 an5 : Option Addr}
    {sl5 : Array (Option Value)}
    {oc5 kV5 dc5 pm5 cd5 ct5 : Value}
    {f6 : Addr}
    {od6 an6 : Option Addr}
    {sl6 : Array (Option Value)}
    {oc6 kV6 dc6 pm6 cd6 ct6 : Value}
    {f7 : Addr}
    {od7 an7 : Option Addr}
    {sl7 : Array (Option Value)}
    {oc7 kV7 dc7 pm7 cd7 ct7 : Value}
    {f8 : Addr}
    {od8 an8 : Option Addr}
    {sl8 : Array (Option Value)}
    {oc8 kV8 dc8 pm8 cd8 ct8 : Value}
    {f9 : Addr}
    {od9 an9 : Option Addr}
    {sl9 : Array (Option Value)}
    {oc9 kV9 dc9 pm9 cd9 ct9 : Value}
    {f10 : Addr}
    {od10 an10 : Option Addr}
    {sl10 : Array (Option Value)}
    {oc10 kV10 dc10 pm10 cd10 ct10 : Value}
    {f11 : Addr}
    {od11 an11 : Option Addr}
    {sl11 : Array (Option Value)}
    {oc11 kV11 dc11 pm11 cd11 ct11 : Value}
    {f12 : Addr}
    {od12 an12 : Option Addr}
    {sl12 : Array (Option Value)}
    {oc12 kV12 dc12 pm12 cd12 ct12 : Value}
    {f13 : Addr}
    {od13 an13 : Option Addr}
    {sl13 : Array (Option Value)}
    {oc13 kV13 dc13 pm13 cd13 ct13 : Value}
    {f14 : Addr}
    {od14 an14 : Option Addr}
    {sl14 : Array (Option Value)}
    {oc14 kV14 dc14 pm14 cd14 ct14 : Value}
    {f15 : Addr}
    {od15 an15 : Option Addr}
    {sl15 : Array (Option Value)}
    {oc15 kV15 dc15 pm15 cd15 ct15 : Value}
    {f16 : Addr}
    {od16 an16 : Option Addr}
    {sl16 : Array (Option Value)}
    {oc16 kV16 dc16 pm16 cd16 ct16 : Value}
    {f17 : Addr}
    {od17 an17 : Option Addr}
    {sl17 : Array (Option Value)}
    {oc17 kV17 dc17 pm17 cd17 ct17 : Value}
    {f18 : Addr}
    {od18 an18 : Option Addr}
    {sl18 : Array (Option Value)}
    {oc18 kV18 dc18 pm18 cd18 ct18 : Value}
    {sL : Str}
    {tL : Tok}
    {tX6 : Tok}
    {tX1 : Tok}
    {BN feN ccN cdaN NN : Addr}
    {nmN qnN fileN : Str}
    {bsN bmN sbN : List Value}
    {snN : List Str}
    {abN : Bool}
    {coN : Option Bool}
    {ddN odN anN cdN ceN : Option Addr}
    {m0N m1N m2N m3N m5N : Option Value}
    {vsN : Array Value}
    {tfN : Tok}
    {slN csN czN : Array (Option Value)}
    {ocN kVN dcN pmN ctN clN cxN : Value}
    {BT feB ccB cdaB NB : Addr}
    {nmB qnB fileB : Str}
    {bsB bmB sbB : List Value}
    {snB : List Str}
    {abB : Bool}
    {coB : Option Bool}
    {ddB odB anB cdB ceB : Option Addr}
    {m0B m1B m2B m3B m5B : Option Value}
    {vsB : Array Value}
    {tfB : Tok}
    {slB csB czB : Array (Option Value)}
    {ocB kVB dcB pmB ctB clB cxB : Value}
    {NO feQ ccQ cdaQ NQ : Addr}
    {nmQ qnQ fileQ : Str}
    {bsQ bmQ sbQ : List Value}
    {snQ : List Str}
    {abQ : Bool}
    {coQ : Option Bool}
    {ddQ odQ anQ cdQ ceQ : Option Addr}
    {m0Q m1Q m2Q m3Q m5Q : Option Value}
    {vsQ : Array Value}
    {tfQ : Tok}
    {slQ csQ czQ : Array (Option Value)}
    {ocQ kVQ dcQ pmQ ctQ clQ cxQ : Value}
    {CE : Addr}
    {TC : Addr}
    {TD : Addr}
    {dtD : Option Addr}
    {itsD : Array Value}
    {ntD : Nat}
    {sqD : Array (Option Value)}
    {tcD : Value}
    {tkD : Tok}
    {fTI : Addr}
    {odTI anTI : Option Addr}
    {slTI : Array (Option Value)}
    {ocTI kVTI dcTI pmTI cdTI ctTI : Value}
    {fTN : Addr}
    {odTN anTN : Option Addr}
    {slTN : Array (Option Value)}
    {ocTN kVTN dcTN pmTN cdTN ctTN : Value}
    {fTO : Addr}
    {odTO anTO : Option Addr}
    {slTO : Array (Option Value)}
    {ocTO kVTO dcTO pmTO cdTO ctTO : Value}
    {fTA : Addr}
    {odTA anTA : Option Addr}
    {slTA : Array (Option Value)}
    {ocTA kVTA dcTA pmTA cdTA ctTA : Value}
    {fTK : Addr}
    {odTK anTK : Option Addr}
    {slTK : Array (Option Value)}
    {ocTK kVTK dcTK pmTK cdTK ctTK : Value}
    {Y0 : Addr}
    {Y1 : Addr}
    {Y2 : Addr}
    {Y3 : Addr}
    {Y4 : Addr}
    {Y5 : Addr}
    {Y6 : Addr}
    {Y7 : Addr}
    {fI0 : Addr}
    {odI0 anI0 : Option Addr}
    {slI0 : Array (Option Value)}
    {ocI0 kVI0 dcI0 pmI0 cdI0 ctI0 : Value}
    {fR0 : Addr}
    {odR0 anR0 : Option Addr}
    {slR0 : Array (Option Value)}
    {ocR0 kVR0 dcR0 pmR0 cdR0 ctR0 : Value}
    {fR1 ccR1 cdaR1 : Addr}
    {odR1 anR1 cdR1 ceR1 : Option Addr}
    {ocR1 kVR1 dcR1 pmR1 ctR1 clR1 cxR1 : Value}
    {slR1 csR1 czR1 : Array (Option Value)}
    {vsR1 : Array Value}
    {fileR1 : Str}
    {tfR1 : Tok}
    {fR2 ccR2 cdaR2 : Addr}
    {odR2 anR2 cdR2 ceR2 : Option Addr}
    {ocR2 kVR2 dcR2 pmR2 ctR2 clR2 cxR2 : Value}
    {slR2 csR2 czR2 : Array (Option Value)}
    {vsR2 : Array Value}
    {fileR2 : Str}
    {tfR2 : Tok}
    {fR3 ccR3 cdaR3 : Addr}
    {odR3 anR3 cdR3 ceR3 : Option Addr}
    {ocR3 kVR3 dcR3 pmR3 ctR3 clR3 cxR3 : Value}
    {slR3 csR3 czR3 : Array (Option Value)}
    {vsR3 : Array Value}
    {fileR3 : Str}
    {tfR3 : Tok}
    {fR4 ccR4 cdaR4 : Addr}
    {odR4 anR4 cdR4 ceR4 : Option Addr}
    {ocR4 kVR4 dcR4 pmR4 ctR4 clR4 cxR4 : Value}
    {slR4 csR4 czR4 : Array (Option Value)}
    {vsR4 : Array Value}
    {fileR4 : Str}
    {tfR4 : Tok}
    {fR5 ccR5 cdaR5 : Addr}
    {odR5 anR5 cdR5 ceR5 : Option Addr}
    {ocR5 kVR5 dcR5 pmR5 ctR5 clR5 cxR5 : Value}
    {slR5 csR5 czR5 : Array (Option Value)}
    {vsR5 : Array Value}
    {fileR5 : Str}
    {tfR5 : Tok}
    {fR6 ccR6 cdaR6 : Addr}
    {odR6 anR6 cdR6 ceR6 : Option Addr}
    {ocR6 kVR6 dcR6 pmR6 ctR6 clR6 cxR6 : Value}
    {slR6 csR6 czR6 : Array (Option Value)}
    {vsR6 : Array Value}
    {fileR6 : Str}
    {tfR6 : Tok}
    {fR7 ccR7 cdaR7 : Addr}
    {odR7 anR7 cdR7 ceR7 : Option Addr}
    {ocR7 kVR7 dcR7 pmR7 ctR7 clR7 cxR7 : Value}
    {slR7 csR7 czR7 : Array (Option Value)}
    {vsR7 : Array Value}
    {fileR7 : Str}
    {tfR7 : Tok}
    (a0 : PySem.W.nsIn K mainGlobals "is_name" = some (some (.ref f0)))
    (l0 : K.lookup f0 = some ⟨oc0, od0, .func (PySem.W.fnOf "is_name" "is_name" (defArgs s_is_name) (defBody s_is_name) (defScope s_is_name) .none kV0 dc0 pm0 an0 cd0 ct0), sl0⟩)
    (c0 : PySem.W.codeIn K cd0 "is_name" = true)
    (k0 : PySem.W.keepIn K (.ref f0) = true)
    (a1 : PySem.W.nsIn K mainGlobals "is_below" = some (some (.ref f1)))
    (l1 : K.lookup f1 = some ⟨oc1, od1, .func (PySem.W.fnOf "is_below" "is_below" (defArgs s_is_below) (defBody s_is_below) (defScope s_is_below) .none kV1 dc1 pm1 an1 cd1 ct1), sl1⟩)
    (c1 : PySem.W.codeIn K cd1 "is_below" = true)
    (k1 : PySem.W.keepIn K (.ref f1) = true)
    (a2 : PySem.W.nsIn K mainGlobals "is_number" = some (some (.ref f2)))
    (l2 : K.lookup f2 = some ⟨oc2, od2, .func (PySem.W.fnOf "is_number" "is_number" (defArgs s_is_number) (defBody s_is_number) (defScope s_is_number) .none kV2 dc2 pm2 an2 cd2 ct2), sl2⟩)
    (c2 : PySem.W.codeIn K cd2 "is_number" = true)
    (k2 : PySem.W.keepIn K (.ref f2) = true)
    (a3 : PySem.W.nsIn K mainGlobals "is_pair" = some (some (.ref f3)))
    (l3 : K.lookup f3 = some ⟨oc3, od3, .func (PySem.W.fnOf "is_pair" "is_pair" (defArgs s_is_pair) (defBody s_is_pair) (defScope s_is_pair) .none kV3 dc3 pm3 an3 cd3 ct3), sl3⟩)
    (c3 : PySem.W.codeIn K cd3 "is_pair" = true)
    (k3 : PySem.W.keepIn K (.ref f3) = true)
    (a4 : PySem.W.nsIn K mainGlobals "is_row" = some (some (.ref f4)))
    (l4 : K.lookup f4 = some ⟨oc4, od4, .func (PySem.W.fnOf "is_row" "is_row" (defArgs s_is_row) (defBody s_is_row) (defScope s_is_row) .none kV4 dc4 pm4 an4 cd4 ct4), sl4⟩)
    (c4 : PySem.W.codeIn K cd4 "is_row" = true)
    (k4 : PySem.W.keepIn K (.ref f4) = true)
    (a5 : PySem.W.nsIn K mainGlobals "check_rows" = some (some (.ref f5)))
    (l5 : K.lookup f5 = some ⟨oc5, od5, .func (PySem.W.fnOf "check_rows" "check_rows" (defArgs s_check_rows) (defBody s_check_rows) (defScope s_check_rows) .none kV5 dc5 pm5 an5 cd5 ct5), sl5⟩)
    (c5 : PySem.W.codeIn K cd5 "check_rows" = true)
    (k5 : PySem.W.keepIn K (.ref f5) = true)
    (a6 : PySem.W.nsIn K mainGlobals "table_of" = some (some (.ref f6)))
    (l6 : K.lookup f6 = some ⟨oc6, od6, .func (PySem.W.fnOf "table_of" "table_of" (defArgs s_table_of) (defBody s_table_of) (defScope s_table_of) .none kV6 dc6 pm6 an6 cd6 ct6), sl6⟩)
    (c6 : PySem.W.codeIn K cd6 "table_of" = true)
    (k6 : PySem.W.keepIn K (.ref f6) = true)
    (a7 : PySem.W.nsIn K mainGlobals "_law_mixed" = some (some (.ref f7)))
    (l7 : K.lookup f7 = some ⟨oc7, od7, .func (PySem.W.fnOf "_law_mixed" "_law_mixed" (defArgs s_law_mixed) (defBody s_law_mixed) (defScope s_law_mixed) .none kV7 dc7 pm7 an7 cd7 ct7), sl7⟩)
    (c7 : PySem.W.codeIn K cd7 "_law_mixed" = true)
    (k7 : PySem.W.keepIn K (.ref f7) = true)
    (a8 : PySem.W.nsIn K mainGlobals "_law_draws" = some (some (.ref f8)))
    (l8 : K.lookup f8 = some ⟨oc8, od8, .func (PySem.W.fnOf "_law_draws" "_law_draws" (defArgs s_law_draws) (defBody s_law_draws) (defScope s_law_draws) .none kV8 dc8 pm8 an8 cd8 ct8), sl8⟩)
    (c8 : PySem.W.codeIn K cd8 "_law_draws" = true)
    (k8 : PySem.W.keepIn K (.ref f8) = true)
    (a9 : PySem.W.nsIn K mainGlobals "_law_is_whole" = some (some (.ref f9)))
    (l9 : K.lookup f9 = some ⟨oc9, od9, .func (PySem.W.fnOf "_law_is_whole" "_law_is_whole" (defArgs s_law_is_whole) (defBody s_law_is_whole) (defScope s_law_is_whole) .none kV9 dc9 pm9 an9 cd9 ct9), sl9⟩)
    (c9 : PySem.W.codeIn K cd9 "_law_is_whole" = true)
    (k9 : PySem.W.keepIn K (.ref f9) = true)
    (a10 : PySem.W.nsIn K mainGlobals "_law_make" = some (some (.ref f10)))
    (l10 : K.lookup f10 = some ⟨oc10, od10, .func (PySem.W.fnOf "_law_make" "_law_make" (defArgs s_law_make) (defBody s_law_make) (defScope s_law_make) .none kV10 dc10 pm10 an10 cd10 ct10), sl10⟩)
    (c10 : PySem.W.codeIn K cd10 "_law_make" = true)
    (k10 : PySem.W.keepIn K (.ref f10) = true)
    (a11 : PySem.W.nsIn K mainGlobals "_law_names" = some (some (.ref f11)))
    (l11 : K.lookup f11 = some ⟨oc11, od11, .func (PySem.W.fnOf "_law_names" "_law_names" (defArgs s_law_names) (defBody s_law_names) (defScope s_law_names) .none kV11 dc11 pm11 an11 cd11 ct11), sl11⟩)
    (c11 : PySem.W.codeIn K cd11 "_law_names" = true)
    (k11 : PySem.W.keepIn K (.ref f11) = true)
    (a12 : PySem.W.nsIn K mainGlobals "_law_do" = some (some (.ref f12)))
    (l12 : K.lookup f12 = some ⟨oc12, od12, .func (PySem.W.fnOf "_law_do" "_law_do" (defArgs s_law_do) (defBody s_law_do) (defScope s_law_do) .none kV12 dc12 pm12 an12 cd12 ct12), sl12⟩)
    (c12 : PySem.W.codeIn K cd12 "_law_do" = true)
    (k12 : PySem.W.keepIn K (.ref f12) = true)
    (a13 : PySem.W.nsIn K mainGlobals "_law_is_pair" = some (some (.ref f13)))
    (l13 : K.lookup f13 = some ⟨oc13, od13, .func (PySem.W.fnOf "_law_is_pair" "_law_is_pair" (defArgs s_law_is_pair) (defBody s_law_is_pair) (defScope s_law_is_pair) .none kV13 dc13 pm13 an13 cd13 ct13), sl13⟩)
    (c13 : PySem.W.codeIn K cd13 "_law_is_pair" = true)
    (k13 : PySem.W.keepIn K (.ref f13) = true)
    (a14 : PySem.W.nsIn K mainGlobals "_law_right" = some (some (.ref f14)))
    (l14 : K.lookup f14 = some ⟨oc14, od14, .func (PySem.W.fnOf "_law_right" "_law_right" (defArgs s_law_right) (defBody s_law_right) (defScope s_law_right) .none kV14 dc14 pm14 an14 cd14 ct14), sl14⟩)
    (c14 : PySem.W.codeIn K cd14 "_law_right" = true)
    (k14 : PySem.W.keepIn K (.ref f14) = true)
    (a15 : PySem.W.nsIn K mainGlobals "_law_table" = some (some (.ref f15)))
    (l15 : K.lookup f15 = some ⟨oc15, od15, .func (PySem.W.fnOf "_law_table" "_law_table" (defArgs s_law_table) (defBody s_law_table) (defScope s_law_table) .none kV15 dc15 pm15 an15 cd15 ct15), sl15⟩)
    (c15 : PySem.W.codeIn K cd15 "_law_table" = true)
    (k15 : PySem.W.keepIn K (.ref f15) = true)
    (a16 : PySem.W.nsIn K mainGlobals "_law_kin" = some (some (.ref f16)))
    (l16 : K.lookup f16 = some ⟨oc16, od16, .func (PySem.W.fnOf "_law_kin" "_law_kin" (defArgs s_law_kin) (defBody s_law_kin) (defScope s_law_kin) .none kV16 dc16 pm16 an16 cd16 ct16), sl16⟩)
    (c16 : PySem.W.codeIn K cd16 "_law_kin" = true)
    (k16 : PySem.W.keepIn K (.ref f16) = true)
    (a17 : PySem.W.nsIn K mainGlobals "_law_bad_size" = some (some (.ref f17)))
    (l17 : K.lookup f17 = some ⟨oc17, od17, .func (PySem.W.fnOf "_law_bad_size" "_law_bad_size" (defArgs s_law_bad_size) (defBody s_law_bad_size) (defScope s_law_bad_size) .none kV17 dc17 pm17 an17 cd17 ct17), sl17⟩)
    (c17 : PySem.W.codeIn K cd17 "_law_bad_size" = true)
    (k17 : PySem.W.keepIn K (.ref f17) = true)
    (a18 : PySem.W.nsIn K mainGlobals "law" = some (some (.ref f18)))
    (l18 : K.lookup f18 = some ⟨oc18, od18, .func (PySem.W.fnOf "law" "law" (defArgs s_law) (defBody s_law) (defScope s_law) .none kV18 dc18 pm18 an18 cd18 ct18), sl18⟩)
    (c18 : PySem.W.codeIn K cd18 "law" = true)
    (k18 : PySem.W.keepIn K (.ref f18) = true)
    (z_isinstance : PySem.W.nsIn K mainGlobals "isinstance" = some none)
    (z_str : PySem.W.nsIn K mainGlobals "str" = some none)
    (z_int : PySem.W.nsIn K mainGlobals "int" = some none)
    (z_bool : PySem.W.nsIn K mainGlobals "bool" = some none)
    (z_tuple : PySem.W.nsIn K mainGlobals "tuple" = some none)
    (z_list : PySem.W.nsIn K mainGlobals "list" = some none)
    (z_dict : PySem.W.nsIn K mainGlobals "dict" = some none)
    (z_len : PySem.W.nsIn K mainGlobals "len" = some none)
    (z_all : PySem.W.nsIn K mainGlobals "all" = some none)
    (z_abs : PySem.W.nsIn K mainGlobals "abs" = some none)
    (z_range : PySem.W.nsIn K mainGlobals "range" = some none)
    (z_super : PySem.W.nsIn K mainGlobals "super" = some none)
    (gL : PySem.W.nsIn K mainGlobals "LETTERS" = some (some (.str sL tL)))
    (eL : sL = lets)
    (gX6 : PySem.W.nsIn K mainGlobals "MOST_OPERATIONS" = some (some (.int 6 tX6)))
    (gX1 : PySem.W.nsIn K mainGlobals "MOST_STATES" = some (some (.int 100 tX1)))
    (aN : PySem.W.nsIn K mainGlobals "BadNumber" = some (some (.ref BN)))
    (xN : K.lookup BN = some (excClassObj nmN qnN BN NN bsN bmN true snN sbN abN coN ddN m0N m1N m2N m3N m5N "ValueError.__new__"))
    (rN : PySem.HandSPX.refsVE bmN = true)
    (b1N : PySem.W.findIn K (.ref BN) "__setattr__" = some (some (.builtin "object.__setattr__")))
    (q1N : PySem.W.subIn K (.ref BN) (.type "BaseException") = some true)
    (q2N : PySem.W.isClsIn K BN = true)
    (q3N : PySem.W.typeIn K (.ref BN) = some (.type "type"))
    (b4N : PySem.W.keepIn K (.ref BN) = true)
    (b5N : PySem.W.findIn K (.ref BN) "__init__" = some (some (.ref feN)))
    (b6N : PySem.W.typeIn K (.ref feN) = some (.type "function"))
    (lN : K.lookup feN = some ⟨ocN, odN, .func (PySem.W.fnX "__init__" "BadNumber.__init__" (defArgs s_BadNumber_init) (defBody s_BadNumber_init) (defScope s_BadNumber_init) [("__class__", ccN)] .none kVN dcN pmN anN (.ref cdaN) ctN), slN⟩)
    (cN : PySem.W.codeIn K (.ref cdaN) "BadNumber.__init__" = true)
    (kN : PySem.W.keepIn K (.ref feN) = true)
    (eN : K.lookup ccN = some ⟨clN, cdN, .cell (some (.ref BN)), csN⟩)
    (b7N : PySem.W.ks_superIn K BN BN "__init__" = some (some (.builtin "ValueError.__init__")))
    (b8N : PySem.W.subIn K (.ref BN) (.type "ValueError") = some true)
    (b9 : PySem.W.nsIn K cStatics "thirdparty.any" = some none)
    (b14 : (l.prog.main.scope.names.lookup ("super" : Str)).isSome = false)
    (b31 : PySem.W.kitMeta "ValueError" = true)
    (p12 : PySem.W.specialIn K (.builtin "object.__class__") "__get__" = some (some (.builtin "getset_descriptor.__get__")))
    (p13 : PySem.W.takesIn K (.builtin "object.__class__") = some true)
    (b10N : PySem.W.mroIn K BN (.ref BN) = some true)
    (b11N : K.lookup cdaN = some ⟨cxN, ceN, .fields vsN, czN⟩)
    (b12N : vsN[2]? = some (.str fileN tfN))
    (b13N : ((l.prog.main.file : Str) == fileN) = true)
    (b15N : PySem.W.findIn K (.ref BN) "number" = some none)
    (b17N : PySem.W.findIn K (.ref BN) "__getattribute__" = some (some (.builtin "BaseException.__getattribute__")))
    (b18N : PySem.W.findIn K (.ref BN) "__getattr__" = some none)
    (b19N : PySem.W.hasDictIn K BN = true)
    (b25N : PySem.W.findIn K (.ref BN) "__class__" = some (some (.builtin "object.__class__")))
    (b26N : PySem.W.mroIn K BN (.type "object") = some true)
    (aB : PySem.W.nsIn K mainGlobals "BadTable" = some (some (.ref BT)))
    (xB : K.lookup BT = some (excClassObj nmB qnB BT NB bsB bmB true snB sbB abB coB ddB m0B m1B m2B m3B m5B "ValueError.__new__"))
    (rB : PySem.HandSPX.refsVE bmB = true)
    (b1B : PySem.W.findIn K (.ref BT) "__setattr__" = some (some (.builtin "object.__setattr__")))
    (q1B : PySem.W.subIn K (.ref BT) (.type "BaseException") = some true)
    (q2B : PySem.W.isClsIn K BT = true)
    (q3B : PySem.W.typeIn K (.ref BT) = some (.type "type"))
    (b4B : PySem.W.keepIn K (.ref BT) = true)
    (b5B : PySem.W.findIn K (.ref BT) "__init__" = some (some (.ref feB)))
    (b6B : PySem.W.typeIn K (.ref feB) = some (.type "function"))
    (lB : K.lookup feB = some ⟨ocB, odB, .func (PySem.W.fnX "__init__" "BadTable.__init__" (defArgs s_BadTable_init) (defBody s_BadTable_init) (defScope s_BadTable_init) [("__class__", ccB)] .none kVB dcB pmB anB (.ref cdaB) ctB), slB⟩)
    (cB : PySem.W.codeIn K (.ref cdaB) "BadTable.__init__" = true)
    (kB : PySem.W.keepIn K (.ref feB) = true)
    (eB : K.lookup ccB = some ⟨clB, cdB, .cell (some (.ref BT)), csB⟩)
    (b7B : PySem.W.ks_superIn K BT BT "__init__" = some (some (.builtin "ValueError.__init__")))
    (b8B : PySem.W.subIn K (.ref BT) (.type "ValueError") = some true)
    (b10B : PySem.W.mroIn K BT (.ref BT) = some true)
    (b11B : K.lookup cdaB = some ⟨cxB, ceB, .fields vsB, czB⟩)
    (b12B : vsB[2]? = some (.str fileB tfB))
    (b13B : ((l.prog.main.file : Str) == fileB) = true)
    (b15B : PySem.W.findIn K (.ref BT) "name" = some none)
    (b17B : PySem.W.findIn K (.ref BT) "__getattribute__" = some (some (.builtin "BaseException.__getattribute__")))
    (b18B : PySem.W.findIn K (.ref BT) "__getattr__" = some none)
    (b19B : PySem.W.hasDictIn K BT = true)
    (b25B : PySem.W.findIn K (.ref BT) "__class__" = some (some (.builtin "object.__class__")))
    (b26B : PySem.W.mroIn K BT (.type "object") = some true)
    (aQ : PySem.W.nsIn K mainGlobals "NoOperation" = some (some (.ref NO)))
    (xQ : K.lookup NO = some (excClassObj nmQ qnQ NO NQ bsQ bmQ true snQ sbQ abQ coQ ddQ m0Q m1Q m2Q m3Q m5Q "ValueError.__new__"))
    (rQ : PySem.HandSPX.refsVE bmQ = true)
    (b1Q : PySem.W.findIn K (.ref NO) "__setattr__" = some (some (.builtin "object.__setattr__")))
    (q1Q : PySem.W.subIn K (.ref NO) (.type "BaseException") = some true)
    (q2Q : PySem.W.isClsIn K NO = true)
    (q3Q : PySem.W.typeIn K (.ref NO) = some (.type "type"))
    (b4Q : PySem.W.keepIn K (.ref NO) = true)
    (b5Q : PySem.W.findIn K (.ref NO) "__init__" = some (some (.ref feQ)))
    (b6Q : PySem.W.typeIn K (.ref feQ) = some (.type "function"))
    (lQ : K.lookup feQ = some ⟨ocQ, odQ, .func (PySem.W.fnX "__init__" "NoOperation.__init__" (defArgs s_NoOperation_init) (defBody s_NoOperation_init) (defScope s_NoOperation_init) [("__class__", ccQ)] .none kVQ dcQ pmQ anQ (.ref cdaQ) ctQ), slQ⟩)
    (cQ : PySem.W.codeIn K (.ref cdaQ) "NoOperation.__init__" = true)
    (kQ : PySem.W.keepIn K (.ref feQ) = true)
    (eQ : K.lookup ccQ = some ⟨clQ, cdQ, .cell (some (.ref NO)), csQ⟩)
    (b7Q : PySem.W.ks_superIn K NO NO "__init__" = some (some (.builtin "ValueError.__init__")))
    (b8Q : PySem.W.subIn K (.ref NO) (.type "ValueError") = some true)
    (b10Q : PySem.W.mroIn K NO (.ref NO) = some true)
    (b11Q : K.lookup cdaQ = some ⟨cxQ, ceQ, .fields vsQ, czQ⟩)
    (b12Q : vsQ[2]? = some (.str fileQ tfQ))
    (b13Q : ((l.prog.main.file : Str) == fileQ) = true)
    (b15Q : PySem.W.findIn K (.ref NO) "name" = some none)
    (b17Q : PySem.W.findIn K (.ref NO) "__getattribute__" = some (some (.builtin "BaseException.__getattribute__")))
    (b18Q : PySem.W.findIn K (.ref NO) "__getattr__" = some none)
    (b19Q : PySem.W.hasDictIn K NO = true)
    (b25Q : PySem.W.findIn K (.ref NO) "__class__" = some (some (.builtin "object.__class__")))
    (b26Q : PySem.W.mroIn K NO (.type "object") = some true)
    (aC : PySem.W.nsIn K mainGlobals "CoreError" = some (some (.ref CE)))
    (q1C : PySem.W.subIn K (.ref CE) (.type "BaseException") = some true)
    (q2C : PySem.W.isClsIn K CE = true)
    (q3C : PySem.W.typeIn K (.ref CE) = some (.type "type"))
    (aT : PySem.W.nsIn K mainGlobals "Table" = some (some (.ref TC)))
    (p1T : PySem.W.plainGet K TC Str.empty = true)
    (p2T : PySem.W.hasDictIn K TC = true)
    (p3T : PySem.W.plainOver K TC = true)
    (p4T : PySem.W.findIn K (.ref TC) "__setattr__" = some (some (.builtin "object.__setattr__")))
    (n0T : PySem.W.findIn K (.ref TC) "size" = some none)
    (n1T : PySem.W.findIn K (.ref TC) "first" = some none)
    (n2T : PySem.W.findIn K (.ref TC) "_rows" = some none)
    (p9T : PySem.W.keepIn K (.ref TC) = true)
    (p5T : PySem.W.makesIn K TC = true)
    (mTI : PySem.W.findIn K (.ref TC) "__init__" = some (some (.ref fTI)))
    (hTI : PySem.W.isFn K (.ref fTI) = true)
    (lTI : K.lookup fTI = some ⟨ocTI, odTI, .func (PySem.W.fnOf "__init__" "Table.__init__" (defArgs s_Table_init) (defBody s_Table_init) (defScope s_Table_init) (.ref TD) kVTI dcTI pmTI anTI cdTI ctTI), slTI⟩)
    (cTI : PySem.W.codeIn K cdTI "Table.__init__" = true)
    (kTI : PySem.W.keepIn K (.ref fTI) = true)
    (mTN : PySem.W.findIn K (.ref TC) "names" = some (some (.ref fTN)))
    (hTN : PySem.W.isFn K (.ref fTN) = true)
    (lTN : K.lookup fTN = some ⟨ocTN, odTN, .func (PySem.W.fnOf "names" "Table.names" (defArgs s_Table_names) (defBody s_Table_names) (defScope s_Table_names) .none kVTN dcTN pmTN anTN cdTN ctTN), slTN⟩)
    (cTN : PySem.W.codeIn K cdTN "Table.names" = true)
    (kTN : PySem.W.keepIn K (.ref fTN) = true)
    (mTO : PySem.W.findIn K (.ref TC) "__call__" = some (some (.ref fTO)))
    (hTO : PySem.W.isFn K (.ref fTO) = true)
    (lTO : K.lookup fTO = some ⟨ocTO, odTO, .func (PySem.W.fnOf "__call__" "Table.__call__" (defArgs s_Table_call) (defBody s_Table_call) (defScope s_Table_call) .none kVTO dcTO pmTO anTO cdTO ctTO), slTO⟩)
    (cTO : PySem.W.codeIn K cdTO "Table.__call__" = true)
    (kTO : PySem.W.keepIn K (.ref fTO) = true)
    (mTA : PySem.W.findIn K (.ref TC) "answers" = some (some (.ref fTA)))
    (hTA : PySem.W.isFn K (.ref fTA) = true)
    (lTA : K.lookup fTA = some ⟨ocTA, odTA, .func (PySem.W.fnOf "answers" "Table.answers" (defArgs s_Table_answers) (defBody s_Table_answers) (defScope s_Table_answers) .none kVTA dcTA pmTA anTA cdTA ctTA), slTA⟩)
    (cTA : PySem.W.codeIn K cdTA "Table.answers" = true)
    (kTA : PySem.W.keepIn K (.ref fTA) = true)
    (mTK : PySem.W.findIn K (.ref TC) "check_name" = some (some (.ref fTK)))
    (hTK : PySem.W.isFn K (.ref fTK) = true)
    (lTK : K.lookup fTK = some ⟨ocTK, odTK, .func (PySem.W.fnOf "check_name" "Table.check_name" (defArgs s_Table_check_name) (defBody s_Table_check_name) (defScope s_Table_check_name) .none kVTK dcTK pmTK anTK cdTK ctTK), slTK⟩)
    (cTK : PySem.W.codeIn K cdTK "Table.check_name" = true)
    (kTK : PySem.W.keepIn K (.ref fTK) = true)
    (iTO : PySem.W.fnIn K fTO = true)
    (vD : K.lookup TD = some ⟨tcD, dtD, .seq itsD ntD, sqD⟩)
    (uD : itsD = #[.int 0 tkD])
    (sBN : PySem.W.subIn K (.ref BN) (.ref BN) = some true)
    (sBNC : PySem.W.subIn K (.ref BN) (.ref CE) = some true)
    (eBNC : ((Value.ref BN) == (Value.ref CE)) = false)
    (sBNBT : PySem.W.subIn K (.ref BN) (.ref BT) = some false)
    (eBNBT : ((Value.ref BN) == (Value.ref BT)) = false)
    (aS0 : PySem.W.nsIn K mainGlobals "Shape" = some (some (.ref Y0)))
    (p1S0 : PySem.W.plainGet K Y0 Str.empty = true)
    (p2S0 : PySem.W.hasDictIn K Y0 = true)
    (p3S0 : PySem.W.plainOver K Y0 = true)
    (p4S0 : PySem.W.findIn K (.ref Y0) "__setattr__" = some (some (.builtin "object.__setattr__")))
    (n0S0 : PySem.W.findIn K (.ref Y0) "size" = some none)
    (p9S0 : PySem.W.keepIn K (.ref Y0) = true)
    (p5S0 : PySem.W.makesIn K Y0 = true)
    (q2S0 : PySem.W.isClsIn K Y0 = true)
    (q3S0 : PySem.W.typeIn K (.ref Y0) = some (.type "type"))
    (haS0 : PySem.W.findIn K (.ref Y0) "__class__" = some (some (.builtin "object.__class__")))
    (hmS0 : PySem.W.mroIn K Y0 (.type "object") = some true)
    (aS1 : PySem.W.nsIn K mainGlobals "Looks" = some (some (.ref Y1)))
    (p1S1 : PySem.W.plainGet K Y1 Str.empty = true)
    (p2S1 : PySem.W.hasDictIn K Y1 = true)
    (p3S1 : PySem.W.plainOver K Y1 = true)
    (p4S1 : PySem.W.findIn K (.ref Y1) "__setattr__" = some (some (.builtin "object.__setattr__")))
    (n0S1 : PySem.W.findIn K (.ref Y1) "size" = some none)
    (p9S1 : PySem.W.keepIn K (.ref Y1) = true)
    (p5S1 : PySem.W.makesIn K Y1 = true)
    (q2S1 : PySem.W.isClsIn K Y1 = true)
    (q3S1 : PySem.W.typeIn K (.ref Y1) = some (.type "type"))
    (haS1 : PySem.W.findIn K (.ref Y1) "__class__" = some (some (.builtin "object.__class__")))
    (hmS1 : PySem.W.mroIn K Y1 (.type "object") = some true)
    (aS2 : PySem.W.nsIn K mainGlobals "Ups" = some (some (.ref Y2)))
    (p1S2 : PySem.W.plainGet K Y2 Str.empty = true)
    (p2S2 : PySem.W.hasDictIn K Y2 = true)
    (p3S2 : PySem.W.plainOver K Y2 = true)
    (p4S2 : PySem.W.findIn K (.ref Y2) "__setattr__" = some (some (.builtin "object.__setattr__")))
    (n0S2 : PySem.W.findIn K (.ref Y2) "size" = some none)
    (p9S2 : PySem.W.keepIn K (.ref Y2) = true)
    (p5S2 : PySem.W.makesIn K Y2 = true)
    (q2S2 : PySem.W.isClsIn K Y2 = true)
    (q3S2 : PySem.W.typeIn K (.ref Y2) = some (.type "type"))
    (haS2 : PySem.W.findIn K (.ref Y2) "__class__" = some (some (.builtin "object.__class__")))
    (hmS2 : PySem.W.mroIn K Y2 (.type "object") = some true)
    (aS3 : PySem.W.nsIn K mainGlobals "Tops" = some (some (.ref Y3)))
    (p1S3 : PySem.W.plainGet K Y3 Str.empty = true)
    (p2S3 : PySem.W.hasDictIn K Y3 = true)
    (p3S3 : PySem.W.plainOver K Y3 = true)
    (p4S3 : PySem.W.findIn K (.ref Y3) "__setattr__" = some (some (.builtin "object.__setattr__")))
    (n0S3 : PySem.W.findIn K (.ref Y3) "size" = some none)
    (p9S3 : PySem.W.keepIn K (.ref Y3) = true)
    (p5S3 : PySem.W.makesIn K Y3 = true)
    (q2S3 : PySem.W.isClsIn K Y3 = true)
    (q3S3 : PySem.W.typeIn K (.ref Y3) = some (.type "type"))
    (haS3 : PySem.W.findIn K (.ref Y3) "__class__" = some (some (.builtin "object.__class__")))
    (hmS3 : PySem.W.mroIn K Y3 (.type "object") = some true)
    (aS4 : PySem.W.nsIn K mainGlobals "Clears" = some (some (.ref Y4)))
    (p1S4 : PySem.W.plainGet K Y4 Str.empty = true)
    (p2S4 : PySem.W.hasDictIn K Y4 = true)
    (p3S4 : PySem.W.plainOver K Y4 = true)
    (p4S4 : PySem.W.findIn K (.ref Y4) "__setattr__" = some (some (.builtin "object.__setattr__")))
    (n0S4 : PySem.W.findIn K (.ref Y4) "size" = some none)
    (p9S4 : PySem.W.keepIn K (.ref Y4) = true)
    (p5S4 : PySem.W.makesIn K Y4 = true)
    (q2S4 : PySem.W.isClsIn K Y4 = true)
    (q3S4 : PySem.W.typeIn K (.ref Y4) = some (.type "type"))
    (haS4 : PySem.W.findIn K (.ref Y4) "__class__" = some (some (.builtin "object.__class__")))
    (hmS4 : PySem.W.mroIn K Y4 (.type "object") = some true)
    (aS5 : PySem.W.nsIn K mainGlobals "Ticket" = some (some (.ref Y5)))
    (p1S5 : PySem.W.plainGet K Y5 Str.empty = true)
    (p2S5 : PySem.W.hasDictIn K Y5 = true)
    (p3S5 : PySem.W.plainOver K Y5 = true)
    (p4S5 : PySem.W.findIn K (.ref Y5) "__setattr__" = some (some (.builtin "object.__setattr__")))
    (n0S5 : PySem.W.findIn K (.ref Y5) "size" = some none)
    (p9S5 : PySem.W.keepIn K (.ref Y5) = true)
    (p5S5 : PySem.W.makesIn K Y5 = true)
    (q2S5 : PySem.W.isClsIn K Y5 = true)
    (q3S5 : PySem.W.typeIn K (.ref Y5) = some (.type "type"))
    (haS5 : PySem.W.findIn K (.ref Y5) "__class__" = some (some (.builtin "object.__class__")))
    (hmS5 : PySem.W.mroIn K Y5 (.type "object") = some true)
    (aS6 : PySem.W.nsIn K mainGlobals "Latch" = some (some (.ref Y6)))
    (p1S6 : PySem.W.plainGet K Y6 Str.empty = true)
    (p2S6 : PySem.W.hasDictIn K Y6 = true)
    (p3S6 : PySem.W.plainOver K Y6 = true)
    (p4S6 : PySem.W.findIn K (.ref Y6) "__setattr__" = some (some (.builtin "object.__setattr__")))
    (n0S6 : PySem.W.findIn K (.ref Y6) "size" = some none)
    (p9S6 : PySem.W.keepIn K (.ref Y6) = true)
    (p5S6 : PySem.W.makesIn K Y6 = true)
    (q2S6 : PySem.W.isClsIn K Y6 = true)
    (q3S6 : PySem.W.typeIn K (.ref Y6) = some (.type "type"))
    (haS6 : PySem.W.findIn K (.ref Y6) "__class__" = some (some (.builtin "object.__class__")))
    (hmS6 : PySem.W.mroIn K Y6 (.type "object") = some true)
    (aS7 : PySem.W.nsIn K mainGlobals "Meter" = some (some (.ref Y7)))
    (p1S7 : PySem.W.plainGet K Y7 Str.empty = true)
    (p2S7 : PySem.W.hasDictIn K Y7 = true)
    (p3S7 : PySem.W.plainOver K Y7 = true)
    (p4S7 : PySem.W.findIn K (.ref Y7) "__setattr__" = some (some (.builtin "object.__setattr__")))
    (n0S7 : PySem.W.findIn K (.ref Y7) "size" = some none)
    (p9S7 : PySem.W.keepIn K (.ref Y7) = true)
    (p5S7 : PySem.W.makesIn K Y7 = true)
    (q2S7 : PySem.W.isClsIn K Y7 = true)
    (q3S7 : PySem.W.typeIn K (.ref Y7) = some (.type "type"))
    (haS7 : PySem.W.findIn K (.ref Y7) "__class__" = some (some (.builtin "object.__class__")))
    (hmS7 : PySem.W.mroIn K Y7 (.type "object") = some true)
    (mI0 : PySem.W.findIn K (.ref Y0) "__init__" = some (some (.ref fI0)))
    (hI0 : PySem.W.isFn K (.ref fI0) = true)
    (lI0 : K.lookup fI0 = some ⟨ocI0, odI0, .func (PySem.W.fnOf "__init__" "Shape.__init__" (defArgs s_Shape_init) (defBody s_Shape_init) (defScope s_Shape_init) .none kVI0 dcI0 pmI0 anI0 cdI0 ctI0), slI0⟩)
    (cI0 : PySem.W.codeIn K cdI0 "Shape.__init__" = true)
    (kI0 : PySem.W.keepIn K (.ref fI0) = true)
    (mR0 : PySem.W.findIn K (.ref Y0) "rows" = some (some (.ref fR0)))
    (hR0 : PySem.W.isFn K (.ref fR0) = true)
    (lR0 : K.lookup fR0 = some ⟨ocR0, odR0, .func (PySem.W.fnOf "rows" "Shape.rows" (defArgs s_Shape_rows) (defBody s_Shape_rows) (defScope s_Shape_rows) .none kVR0 dcR0 pmR0 anR0 cdR0 ctR0), slR0⟩)
    (cR0 : PySem.W.codeIn K cdR0 "Shape.rows" = true)
    (kR0 : PySem.W.keepIn K (.ref fR0) = true)
    (mI1 : PySem.W.findIn K (.ref Y1) "__init__" = some (some (.ref fI0)))
    (mI2 : PySem.W.findIn K (.ref Y2) "__init__" = some (some (.ref fI0)))
    (mI3 : PySem.W.findIn K (.ref Y3) "__init__" = some (some (.ref fI0)))
    (mI4 : PySem.W.findIn K (.ref Y4) "__init__" = some (some (.ref fI0)))
    (mI5 : PySem.W.findIn K (.ref Y5) "__init__" = some (some (.ref fI0)))
    (mI6 : PySem.W.findIn K (.ref Y6) "__init__" = some (some (.ref fI0)))
    (mI7 : PySem.W.findIn K (.ref Y7) "__init__" = some (some (.ref fI0)))
    (mR1 : PySem.W.findIn K (.ref Y1) "rows" = some (some (.ref fR1)))
    (hR1 : PySem.W.isFn K (.ref fR1) = true)
    (lR1 : K.lookup fR1 = some ⟨ocR1, odR1, .func (PySem.W.fnX "rows" "Looks.rows" (defArgs s_Looks_rows) (defBody s_Looks_rows) (defScope s_Looks_rows) [("__class__", ccR1)] .none kVR1 dcR1 pmR1 anR1 (.ref cdaR1) ctR1), slR1⟩)
    (cR1 : PySem.W.codeIn K (.ref cdaR1) "Looks.rows" = true)
    (kR1 : PySem.W.keepIn K (.ref fR1) = true)
    (eR1 : K.lookup ccR1 = some ⟨clR1, cdR1, .cell (some (.ref Y1)), csR1⟩)
    (b11R1 : K.lookup cdaR1 = some ⟨cxR1, ceR1, .fields vsR1, czR1⟩)
    (b12R1 : vsR1[2]? = some (.str fileR1 tfR1))
    (b13R1 : ((l.prog.main.file : Str) == fileR1) = true)
    (mR2 : PySem.W.findIn K (.ref Y2) "rows" = some (some (.ref fR2)))
    (hR2 : PySem.W.isFn K (.ref fR2) = true)
    (lR2 : K.lookup fR2 = some ⟨ocR2, odR2, .func (PySem.W.fnX "rows" "Ups.rows" (defArgs s_Ups_rows) (defBody s_Ups_rows) (defScope s_Ups_rows) [("__class__", ccR2)] .none kVR2 dcR2 pmR2 anR2 (.ref cdaR2) ctR2), slR2⟩)
    (cR2 : PySem.W.codeIn K (.ref cdaR2) "Ups.rows" = true)
    (kR2 : PySem.W.keepIn K (.ref fR2) = true)
    (eR2 : K.lookup ccR2 = some ⟨clR2, cdR2, .cell (some (.ref Y2)), csR2⟩)
    (b11R2 : K.lookup cdaR2 = some ⟨cxR2, ceR2, .fields vsR2, czR2⟩)
    (b12R2 : vsR2[2]? = some (.str fileR2 tfR2))
    (b13R2 : ((l.prog.main.file : Str) == fileR2) = true)
    (mR3 : PySem.W.findIn K (.ref Y3) "rows" = some (some (.ref fR3)))
    (hR3 : PySem.W.isFn K (.ref fR3) = true)
    (lR3 : K.lookup fR3 = some ⟨ocR3, odR3, .func (PySem.W.fnX "rows" "Tops.rows" (defArgs s_Tops_rows) (defBody s_Tops_rows) (defScope s_Tops_rows) [("__class__", ccR3)] .none kVR3 dcR3 pmR3 anR3 (.ref cdaR3) ctR3), slR3⟩)
    (cR3 : PySem.W.codeIn K (.ref cdaR3) "Tops.rows" = true)
    (kR3 : PySem.W.keepIn K (.ref fR3) = true)
    (eR3 : K.lookup ccR3 = some ⟨clR3, cdR3, .cell (some (.ref Y3)), csR3⟩)
    (b11R3 : K.lookup cdaR3 = some ⟨cxR3, ceR3, .fields vsR3, czR3⟩)
    (b12R3 : vsR3[2]? = some (.str fileR3 tfR3))
    (b13R3 : ((l.prog.main.file : Str) == fileR3) = true)
    (mR4 : PySem.W.findIn K (.ref Y4) "rows" = some (some (.ref fR4)))
    (hR4 : PySem.W.isFn K (.ref fR4) = true)
    (lR4 : K.lookup fR4 = some ⟨ocR4, odR4, .func (PySem.W.fnX "rows" "Clears.rows" (defArgs s_Clears_rows) (defBody s_Clears_rows) (defScope s_Clears_rows) [("__class__", ccR4)] .none kVR4 dcR4 pmR4 anR4 (.ref cdaR4) ctR4), slR4⟩)
    (cR4 : PySem.W.codeIn K (.ref cdaR4) "Clears.rows" = true)
    (kR4 : PySem.W.keepIn K (.ref fR4) = true)
    (eR4 : K.lookup ccR4 = some ⟨clR4, cdR4, .cell (some (.ref Y4)), csR4⟩)
    (b11R4 : K.lookup cdaR4 = some ⟨cxR4, ceR4, .fields vsR4, czR4⟩)
    (b12R4 : vsR4[2]? = some (.str fileR4 tfR4))
    (b13R4 : ((l.prog.main.file : Str) == fileR4) = true)
    (mR5 : PySem.W.findIn K (.ref Y5) "rows" = some (some (.ref fR5)))
    (hR5 : PySem.W.isFn K (.ref fR5) = true)
    (lR5 : K.lookup fR5 = some ⟨ocR5, odR5, .func (PySem.W.fnX "rows" "Ticket.rows" (defArgs s_Ticket_rows) (defBody s_Ticket_rows) (defScope s_Ticket_rows) [("__class__", ccR5)] .none kVR5 dcR5 pmR5 anR5 (.ref cdaR5) ctR5), slR5⟩)
    (cR5 : PySem.W.codeIn K (.ref cdaR5) "Ticket.rows" = true)
    (kR5 : PySem.W.keepIn K (.ref fR5) = true)
    (eR5 : K.lookup ccR5 = some ⟨clR5, cdR5, .cell (some (.ref Y5)), csR5⟩)
    (b11R5 : K.lookup cdaR5 = some ⟨cxR5, ceR5, .fields vsR5, czR5⟩)
    (b12R5 : vsR5[2]? = some (.str fileR5 tfR5))
    (b13R5 : ((l.prog.main.file : Str) == fileR5) = true)
    (mR6 : PySem.W.findIn K (.ref Y6) "rows" = some (some (.ref fR6)))
    (hR6 : PySem.W.isFn K (.ref fR6) = true)
    (lR6 : K.lookup fR6 = some ⟨ocR6, odR6, .func (PySem.W.fnX "rows" "Latch.rows" (defArgs s_Latch_rows) (defBody s_Latch_rows) (defScope s_Latch_rows) [("__class__", ccR6)] .none kVR6 dcR6 pmR6 anR6 (.ref cdaR6) ctR6), slR6⟩)
    (cR6 : PySem.W.codeIn K (.ref cdaR6) "Latch.rows" = true)
    (kR6 : PySem.W.keepIn K (.ref fR6) = true)
    (eR6 : K.lookup ccR6 = some ⟨clR6, cdR6, .cell (some (.ref Y6)), csR6⟩)
    (b11R6 : K.lookup cdaR6 = some ⟨cxR6, ceR6, .fields vsR6, czR6⟩)
    (b12R6 : vsR6[2]? = some (.str fileR6 tfR6))
    (b13R6 : ((l.prog.main.file : Str) == fileR6) = true)
    (mR7 : PySem.W.findIn K (.ref Y7) "rows" = some (some (.ref fR7)))
    (hR7 : PySem.W.isFn K (.ref fR7) = true)
    (lR7 : K.lookup fR7 = some ⟨ocR7, odR7, .func (PySem.W.fnX "rows" "Meter.rows" (defArgs s_Meter_rows) (defBody s_Meter_rows) (defScope s_Meter_rows) [("__class__", ccR7)] .none kVR7 dcR7 pmR7 anR7 (.ref cdaR7) ctR7), slR7⟩)
    (cR7 : PySem.W.codeIn K (.ref cdaR7) "Meter.rows" = true)
    (kR7 : PySem.W.keepIn K (.ref fR7) = true)
    (eR7 : K.lookup ccR7 = some ⟨clR7, cdR7, .cell (some (.ref Y7)), csR7⟩)
    (b11R7 : K.lookup cdaR7 = some ⟨cxR7, ceR7, .fields vsR7, czR7⟩)
    (b12R7 : vsR7[2]? = some (.str fileR7 tfR7))
    (b13R7 : ((l.prog.main.file : Str) == fileR7) = true)
    (iR0 : PySem.W.fnIn K fR0 = true)
    (tyR0 : PySem.W.typeIn K (.ref fR0) = some (.type "function"))
    (iR1 : PySem.W.fnIn K fR1 = true)
    (tyR1 : PySem.W.typeIn K (.ref fR1) = some (.type "function"))
    (iR2 : PySem.W.fnIn K fR2 = true)
    (tyR2 : PySem.W.typeIn K (.ref fR2) = some (.type "function"))
    (iR3 : PySem.W.fnIn K fR3 = true)
    (tyR3 : PySem.W.typeIn K (.ref fR3) = some (.type "function"))
    (iR4 : PySem.W.fnIn K fR4 = true)
    (tyR4 : PySem.W.typeIn K (.ref fR4) = some (.type "function"))
    (u44 : PySem.W.ks_superIn K Y4 Y4 "rows" = some (some (.ref fR0)))
    (w44 : PySem.W.mroIn K Y4 (.ref Y4) = some true)
    (u64 : PySem.W.ks_superIn K Y6 Y4 "rows" = some (some (.ref fR0)))
    (w64 : PySem.W.mroIn K Y6 (.ref Y4) = some true)
    (u74 : PySem.W.ks_superIn K Y7 Y4 "rows" = some (some (.ref fR0)))
    (w74 : PySem.W.mroIn K Y7 (.ref Y4) = some true)
    (u22 : PySem.W.ks_superIn K Y2 Y2 "rows" = some (some (.ref fR0)))
    (w22 : PySem.W.mroIn K Y2 (.ref Y2) = some true)
    (u52 : PySem.W.ks_superIn K Y5 Y2 "rows" = some (some (.ref fR0)))
    (w52 : PySem.W.mroIn K Y5 (.ref Y2) = some true)
    (u72 : PySem.W.ks_superIn K Y7 Y2 "rows" = some (some (.ref fR4)))
    (w72 : PySem.W.mroIn K Y7 (.ref Y2) = some true)
    (u33 : PySem.W.ks_superIn K Y3 Y3 "rows" = some (some (.ref fR0)))
    (w33 : PySem.W.mroIn K Y3 (.ref Y3) = some true)
    (u63 : PySem.W.ks_superIn K Y6 Y3 "rows" = some (some (.ref fR4)))
    (w63 : PySem.W.mroIn K Y6 (.ref Y3) = some true)
    (u11 : PySem.W.ks_superIn K Y1 Y1 "rows" = some (some (.ref fR0)))
    (w11 : PySem.W.mroIn K Y1 (.ref Y1) = some true)
    (u51 : PySem.W.ks_superIn K Y5 Y1 "rows" = some (some (.ref fR2)))
    (w51 : PySem.W.mroIn K Y5 (.ref Y1) = some true)
    (u71 : PySem.W.ks_superIn K Y7 Y1 "rows" = some (some (.ref fR2)))
    (w71 : PySem.W.mroIn K Y7 (.ref Y1) = some true)
    (u55 : PySem.W.ks_superIn K Y5 Y5 "rows" = some (some (.ref fR1)))
    (w55 : PySem.W.mroIn K Y5 (.ref Y5) = some true)
    (u66 : PySem.W.ks_superIn K Y6 Y6 "rows" = some (some (.ref fR3)))
    (w66 : PySem.W.mroIn K Y6 (.ref Y6) = some true)
    (u77 : PySem.W.ks_superIn K Y7 Y7 "rows" = some (some (.ref fR1)))
    (w77 : PySem.W.mroIn K Y7 (.ref Y7) = some true)
    (sx0_1 : PySem.W.subIn K (.ref Y0) (.ref Y1) = some false)
    (ex0_1 : ((Value.ref Y0) == (Value.ref Y1)) = false)
    (sx0_2 : PySem.W.subIn K (.ref Y0) (.ref Y2) = some false)
    (ex0_2 : ((Value.ref Y0) == (Value.ref Y2)) = false)
    (sx0_3 : PySem.W.subIn K (.ref Y0) (.ref Y3) = some false)
    (ex0_3 : ((Value.ref Y0) == (Value.ref Y3)) = false)
    (sx0_4 : PySem.W.subIn K (.ref Y0) (.ref Y4) = some false)
    (ex0_4 : ((Value.ref Y0) == (Value.ref Y4)) = false)
    (sx1_0 : PySem.W.subIn K (.ref Y1) (.ref Y0) = some true)
    (ex1_0 : ((Value.ref Y1) == (Value.ref Y0)) = false)
    (sx1_2 : PySem.W.subIn K (.ref Y1) (.ref Y2) = some false)
    (ex1_2 : ((Value.ref Y1) == (Value.ref Y2)) = false)
    (sx1_3 : PySem.W.subIn K (.ref Y1) (.ref Y3) = some false)
    (ex1_3 : ((Value.ref Y1) == (Value.ref Y3)) = false)
    (sx1_4 : PySem.W.subIn K (.ref Y1) (.ref Y4) = some false)
    (ex1_4 : ((Value.ref Y1) == (Value.ref Y4)) = false)
    (sx2_0 : PySem.W.subIn K (.ref Y2) (.ref Y0) = some true)
    (ex2_0 : ((Value.ref Y2) == (Value.ref Y0)) = false)
    (sx2_1 : PySem.W.subIn K (.ref Y2) (.ref Y1) = some false)
    (ex2_1 : ((Value.ref Y2) == (Value.ref Y1)) = false)
    (sx2_3 : PySem.W.subIn K (.ref Y2) (.ref Y3) = some false)
    (ex2_3 : ((Value.ref Y2) == (Value.ref Y3)) = false)
    (sx2_4 : PySem.W.subIn K (.ref Y2) (.ref Y4) = some false)
    (ex2_4 : ((Value.ref Y2) == (Value.ref Y4)) = false)
    (sx3_0 : PySem.W.subIn K (.ref Y3) (.ref Y0) = some true)
    (ex3_0 : ((Value.ref Y3) == (Value.ref Y0)) = false)
    (sx3_1 : PySem.W.subIn K (.ref Y3) (.ref Y1) = some false)
    (ex3_1 : ((Value.ref Y3) == (Value.ref Y1)) = false)
    (sx3_2 : PySem.W.subIn K (.ref Y3) (.ref Y2) = some false)
    (ex3_2 : ((Value.ref Y3) == (Value.ref Y2)) = false)
    (sx3_4 : PySem.W.subIn K (.ref Y3) (.ref Y4) = some false)
    (ex3_4 : ((Value.ref Y3) == (Value.ref Y4)) = false)
    (sx4_0 : PySem.W.subIn K (.ref Y4) (.ref Y0) = some true)
    (ex4_0 : ((Value.ref Y4) == (Value.ref Y0)) = false)
    (sx4_1 : PySem.W.subIn K (.ref Y4) (.ref Y1) = some false)
    (ex4_1 : ((Value.ref Y4) == (Value.ref Y1)) = false)
    (sx4_2 : PySem.W.subIn K (.ref Y4) (.ref Y2) = some false)
    (ex4_2 : ((Value.ref Y4) == (Value.ref Y2)) = false)
    (sx4_3 : PySem.W.subIn K (.ref Y4) (.ref Y3) = some false)
    (ex4_3 : ((Value.ref Y4) == (Value.ref Y3)) = false)
    (sx5_0 : PySem.W.subIn K (.ref Y5) (.ref Y0) = some true)
    (ex5_0 : ((Value.ref Y5) == (Value.ref Y0)) = false)
    (sx5_1 : PySem.W.subIn K (.ref Y5) (.ref Y1) = some true)
    (ex5_1 : ((Value.ref Y5) == (Value.ref Y1)) = false)
    (sx5_2 : PySem.W.subIn K (.ref Y5) (.ref Y2) = some true)
    (ex5_2 : ((Value.ref Y5) == (Value.ref Y2)) = false)
    (sx5_3 : PySem.W.subIn K (.ref Y5) (.ref Y3) = some false)
    (ex5_3 : ((Value.ref Y5) == (Value.ref Y3)) = false)
    (sx5_4 : PySem.W.subIn K (.ref Y5) (.ref Y4) = some false)
    (ex5_4 : ((Value.ref Y5) == (Value.ref Y4)) = false)
    (sx6_0 : PySem.W.subIn K (.ref Y6) (.ref Y0) = some true)
    (ex6_0 : ((Value.ref Y6) == (Value.ref Y0)) = false)
    (sx6_1 : PySem.W.subIn K (.ref Y6) (.ref Y1) = some false)
    (ex6_1 : ((Value.ref Y6) == (Value.ref Y1)) = false)
    (sx6_2 : PySem.W.subIn K (.ref Y6) (.ref Y2) = some false)
    (ex6_2 : ((Value.ref Y6) == (Value.ref Y2)) = false)
    (sx6_3 : PySem.W.subIn K (.ref Y6) (.ref Y3) = some true)
    (ex6_3 : ((Value.ref Y6) == (Value.ref Y3)) = false)
    (sx6_4 : PySem.W.subIn K (.ref Y6) (.ref Y4) = some true)
    (ex6_4 : ((Value.ref Y6) == (Value.ref Y4)) = false)
    (sx7_0 : PySem.W.subIn K (.ref Y7) (.ref Y0) = some true)
    (ex7_0 : ((Value.ref Y7) == (Value.ref Y0)) = false)
    (sx7_1 : PySem.W.subIn K (.ref Y7) (.ref Y1) = some true)
    (ex7_1 : ((Value.ref Y7) == (Value.ref Y1)) = false)
    (sx7_2 : PySem.W.subIn K (.ref Y7) (.ref Y2) = some true)
    (ex7_2 : ((Value.ref Y7) == (Value.ref Y2)) = false)
    (sx7_3 : PySem.W.subIn K (.ref Y7) (.ref Y3) = some false)
    (ex7_3 : ((Value.ref Y7) == (Value.ref Y3)) = false)
    (sx7_4 : PySem.W.subIn K (.ref Y7) (.ref Y4) = some true)
    (ex7_4 : ((Value.ref Y7) == (Value.ref Y4)) = false) :
    ∃ fd : FuncData, (∀ (s : Shared) (v : Value), BindsTo s fd ⟨[v], []⟩ [("_law_script", v)]) ∧ ∀ base : Heap, K.In base → base.Ns mainGlobals mg → FnOk l.prog w K mg base CX0 13 fa fd ["_law_script"] (spLaw K) := by
  cases hfa.symm.trans (PySem.W.mg_of X G a18)
  subst eL uD
  refine ⟨PySem.W.fnOf "law" "law" (defArgs s_law) (defBody s_law) (defScope s_law) .none kV18 dc18 pm18 an18 cd18 ct18, fun s v => .of_eq rfl, fun base _ _ => ?_⟩
  have T1 : Bt mg tL tX1 tX6 := ⟨(PySem.W.mg_none_of X G z_isinstance), (PySem.W.mg_none_of X G z_str), (PySem.W.mg_none_of X G z_int), (PySem.W.mg_none_of X G z_bool), (PySem.W.mg_none_of X G z_tuple), (PySem.W.mg_none_of X G z_list), (PySem.W.mg_none_of X G z_len), (PySem.W.mg_none_of X G z_all), (PySem.W.mg_of X G gL), (PySem.W.mg_of X G gX1), (PySem.W.mg_of X G gX6)⟩
  have TG : BtG mg := ⟨(PySem.W.mg_none_of X G z_int), (PySem.W.mg_none_of X G z_len), (PySem.W.mg_none_of X G z_abs)⟩
  have TI_ : BtI mg := ⟨(PySem.W.mg_none_of X G z_int), (PySem.W.mg_none_of X G z_isinstance), (PySem.W.mg_none_of X G z_bool), (PySem.W.mg_none_of X G z_tuple), (PySem.W.mg_none_of X G z_len), (PySem.W.mg_none_of X G z_list), (PySem.W.mg_none_of X G z_range), (PySem.W.mg_none_of X G z_dict)⟩
  have TV : BtV mg := ⟨(PySem.W.mg_none_of X G z_int), (PySem.W.mg_none_of X G z_range), (PySem.W.mg_none_of X G z_len)⟩
  have TS_ : BtS mg := ⟨(PySem.W.mg_none_of X G z_super), (PySem.W.mg_none_of X G z_range)⟩
  have OXN : OexC K BN := ⟨⟨nmN, qnN, NN, bsN, bmN, snN, sbN, abN, coN, ddN, m0N, m1N, m2N, m3N, m5N, xN, rN⟩, b1N, q1N, q3N, b4N⟩
  have ECN : ErrC K BN := ⟨OXN, b7N, b8N, b9, b10N⟩
  have CFN : CodeF K l.prog cdaN := ⟨⟨cxN, ceN, vsN, czN, fileN, tfN, b11N, b12N, b13N⟩, b14⟩
  have FXN : FunX K "__init__" "BadNumber.__init__" s_BadNumber_init feN _ ccN cdaN BN := ⟨⟨ocN, odN, kVN, dcN, pmN, anN, ctN, slN, rfl, lN, cN⟩, ⟨clN, cdN, csN, eN⟩, kN⟩
  have KTN : KitC K BN := ⟨q2N, b17N, b18N, q1N, b25N, p12, p13, b26N⟩
  have GXN := ok_BadNumber_init (P := l.prog) (w := w) (base := base) (mg := mg) (CX := L2.CX l.prog w) (Pf := (fun _ => True)) FXN ECN CFN (PySem.W.mg_none_of X G z_super) b15N
  have ERN : Er1 l.prog w K mg base "BadNumber" "number" BN feN _ ["self", "number"] (fun _ => True) := ⟨(PySem.W.mg_of X G aN), OXN, b5N, b6N, .all fun us hl => match us, hl with | [_, _], _ => rfl, GXN⟩
  have OXB : OexC K BT := ⟨⟨nmB, qnB, NB, bsB, bmB, snB, sbB, abB, coB, ddB, m0B, m1B, m2B, m3B, m5B, xB, rB⟩, b1B, q1B, q3B, b4B⟩
  have ECB : ErrC K BT := ⟨OXB, b7B, b8B, b9, b10B⟩
  have CFB : CodeF K l.prog cdaB := ⟨⟨cxB, ceB, vsB, czB, fileB, tfB, b11B, b12B, b13B⟩, b14⟩
  have FXB : FunX K "__init__" "BadTable.__init__" s_BadTable_init feB _ ccB cdaB BT := ⟨⟨ocB, odB, kVB, dcB, pmB, anB, ctB, slB, rfl, lB, cB⟩, ⟨clB, cdB, csB, eB⟩, kB⟩
  have KTB : KitC K BT := ⟨q2B, b17B, b18B, q1B, b25B, p12, p13, b26B⟩
  have GXB := ok_BadTable_init (P := l.prog) (w := w) (base := base) (mg := mg) (CX := L2.CX l.prog w) (Pf := (fun _ => True)) FXB ECB CFB (PySem.W.mg_none_of X G z_super) b15B
  have ERB : Er1 l.prog w K mg base "BadTable" "name" BT feB _ ["self", "name"] (fun _ => True) := ⟨(PySem.W.mg_of X G aB), OXB, b5B, b6B, .all fun us hl => match us, hl with | [_, _], _ => rfl, GXB⟩
  have OXQ : OexC K NO := ⟨⟨nmQ, qnQ, NQ, bsQ, bmQ, snQ, sbQ, abQ, coQ, ddQ, m0Q, m1Q, m2Q, m3Q, m5Q, xQ, rQ⟩, b1Q, q1Q, q3Q, b4Q⟩
  have ECQ : ErrC K NO := ⟨OXQ, b7Q, b8Q, b9, b10Q⟩
  have CFQ : CodeF K l.prog cdaQ := ⟨⟨cxQ, ceQ, vsQ, czQ, fileQ, tfQ, b11Q, b12Q, b13Q⟩, b14⟩
  have FXQ : FunX K "__init__" "NoOperation.__init__" s_NoOperation_init feQ _ ccQ cdaQ NO := ⟨⟨ocQ, odQ, kVQ, dcQ, pmQ, anQ, ctQ, slQ, rfl, lQ, cQ⟩, ⟨clQ, cdQ, csQ, eQ⟩, kQ⟩
  have KTQ : KitC K NO := ⟨q2Q, b17Q, b18Q, q1Q, b25Q, p12, p13, b26Q⟩
  have GXQ := ok_NoOperation_init (P := l.prog) (w := w) (base := base) (mg := mg) (CX := L2.CX l.prog w) (Pf := (fun _ => True)) FXQ ECQ CFQ (PySem.W.mg_none_of X G z_super) b15Q
  have ERQ : Er1 l.prog w K mg base "NoOperation" "name" NO feQ _ ["self", "name"] (fun _ => True) := ⟨(PySem.W.mg_of X G aQ), OXQ, b5Q, b6Q, .all fun us hl => match us, hl with | [_, _], _ => rfl, GXQ⟩
  have TC_ : TbC K mg TC := ⟨(PySem.W.mg_of X G aT), ⟨p1T, p2T, p3T, p4T⟩, n0T, n1T, n2T⟩
  have TE : BtE K mg CE BN BT := ⟨(PySem.W.mg_of X G aC), (PySem.W.mg_of X G aN), (PySem.W.mg_of X G aB), ⟨b17N, b18N, q1N, b19N⟩, b15N, exm_sub q1N q2N q3N sBN, KTN, kit_sub eBNC q2C q3C sBNC, kit_sub eBNBT q2B q3B sBNBT, (PySem.W.mg_none_of X G z_isinstance)⟩
  have CL8 : ∀ i, i < 8 → ClsS K ((pick8 Y0 Y1 Y2 Y3 Y4 Y5 Y6 Y7) i) := all8 (⟨⟨p1S0, p2S0, p3S0, p4S0⟩, n0S0⟩) (⟨⟨p1S1, p2S1, p3S1, p4S1⟩, n0S1⟩) (⟨⟨p1S2, p2S2, p3S2, p4S2⟩, n0S2⟩) (⟨⟨p1S3, p2S3, p3S3, p4S3⟩, n0S3⟩) (⟨⟨p1S4, p2S4, p3S4, p4S4⟩, n0S4⟩) (⟨⟨p1S5, p2S5, p3S5, p4S5⟩, n0S5⟩) (⟨⟨p1S6, p2S6, p3S6, p4S6⟩, n0S6⟩) (⟨⟨p1S7, p2S7, p3S7, p4S7⟩, n0S7⟩)
  have DC8 : ∀ i, i < 8 → ∃ cd, PySem.W.clsIn K ((pick8 Y0 Y1 Y2 Y3 Y4 Y5 Y6 Y7) i) = some cd := all8 (Option.isSome_iff_exists.mp q2S0) (Option.isSome_iff_exists.mp q2S1) (Option.isSome_iff_exists.mp q2S2) (Option.isSome_iff_exists.mp q2S3) (Option.isSome_iff_exists.mp q2S4) (Option.isSome_iff_exists.mp q2S5) (Option.isSome_iff_exists.mp q2S6) (Option.isSome_iff_exists.mp q2S7)
  have MR8 : ∀ i, i < 8 → Meth K ((pick8 Y0 Y1 Y2 Y3 Y4 Y5 Y6 Y7) i) "rows" ((pick8 fR0 fR1 fR2 fR3 fR4 fR5 fR6 fR7) i) := all8 (⟨mR0, hR0, kR0⟩) (⟨mR1, hR1, kR1⟩) (⟨mR2, hR2, kR2⟩) (⟨mR3, hR3, kR3⟩) (⟨mR4, hR4, kR4⟩) (⟨mR5, hR5, kR5⟩) (⟨mR6, hR6, kR6⟩) (⟨mR7, hR7, kR7⟩)
  have M8 : ∀ i, i < 8 → Mk K ((pick8 Y0 Y1 Y2 Y3 Y4 Y5 Y6 Y7) i) fI0 := all8 (⟨p5S0, mI0, hI0, p9S0⟩) (⟨p5S1, mI1, hI0, p9S1⟩) (⟨p5S2, mI2, hI0, p9S2⟩) (⟨p5S3, mI3, hI0, p9S3⟩) (⟨p5S4, mI4, hI0, p9S4⟩) (⟨p5S5, mI5, hI0, p9S5⟩) (⟨p5S6, mI6, hI0, p9S6⟩) (⟨p5S7, mI7, hI0, p9S7⟩)
  have TC8 : BtC K mg (pick8 Y0 Y1 Y2 Y3 Y4 Y5 Y6 Y7) := ⟨all8 ((PySem.W.mg_of X G aS0)) ((PySem.W.mg_of X G aS1)) ((PySem.W.mg_of X G aS2)) ((PySem.W.mg_of X G aS3)) ((PySem.W.mg_of X G aS4)) ((PySem.W.mg_of X G aS5)) ((PySem.W.mg_of X G aS6)) ((PySem.W.mg_of X G aS7)), (PySem.W.mg_none_of X G z_isinstance)⟩
  have KF8 : KinF K (pick8 Y0 Y1 Y2 Y3 Y4 Y5 Y6 Y7) := ⟨all8 (⟨⟨p1S0, p2S0, p3S0, p4S0⟩, haS0, p12, p13, hmS0, kit_self⟩) (⟨⟨p1S1, p2S1, p3S1, p4S1⟩, haS1, p12, p13, hmS1, kit_self⟩) (⟨⟨p1S2, p2S2, p3S2, p4S2⟩, haS2, p12, p13, hmS2, kit_self⟩) (⟨⟨p1S3, p2S3, p3S3, p4S3⟩, haS3, p12, p13, hmS3, kit_self⟩) (⟨⟨p1S4, p2S4, p3S4, p4S4⟩, haS4, p12, p13, hmS4, kit_self⟩) (⟨⟨p1S5, p2S5, p3S5, p4S5⟩, haS5, p12, p13, hmS5, kit_self⟩) (⟨⟨p1S6, p2S6, p3S6, p4S6⟩, haS6, p12, p13, hmS6, kit_self⟩) (⟨⟨p1S7, p2S7, p3S7, p4S7⟩, haS7, p12, p13, hmS7, kit_self⟩), all8 (all5 (kit_self) (kit_sub ex0_1 q2S1 q3S1 sx0_1) (kit_sub ex0_2 q2S2 q3S2 sx0_2) (kit_sub ex0_3 q2S3 q3S3 sx0_3) (kit_sub ex0_4 q2S4 q3S4 sx0_4)) (all5 (kit_sub ex1_0 q2S0 q3S0 sx1_0) (kit_self) (kit_sub ex1_2 q2S2 q3S2 sx1_2) (kit_sub ex1_3 q2S3 q3S3 sx1_3) (kit_sub ex1_4 q2S4 q3S4 sx1_4)) (all5 (kit_sub ex2_0 q2S0 q3S0 sx2_0) (kit_sub ex2_1 q2S1 q3S1 sx2_1) (kit_self) (kit_sub ex2_3 q2S3 q3S3 sx2_3) (kit_sub ex2_4 q2S4 q3S4 sx2_4)) (all5 (kit_sub ex3_0 q2S0 q3S0 sx3_0) (kit_sub ex3_1 q2S1 q3S1 sx3_1) (kit_sub ex3_2 q2S2 q3S2 sx3_2) (kit_self) (kit_sub ex3_4 q2S4 q3S4 sx3_4)) (all5 (kit_sub ex4_0 q2S0 q3S0 sx4_0) (kit_sub ex4_1 q2S1 q3S1 sx4_1) (kit_sub ex4_2 q2S2 q3S2 sx4_2) (kit_sub ex4_3 q2S3 q3S3 sx4_3) (kit_self)) (all5 (kit_sub ex5_0 q2S0 q3S0 sx5_0) (kit_sub ex5_1 q2S1 q3S1 sx5_1) (kit_sub ex5_2 q2S2 q3S2 sx5_2) (kit_sub ex5_3 q2S3 q3S3 sx5_3) (kit_sub ex5_4 q2S4 q3S4 sx5_4)) (all5 (kit_sub ex6_0 q2S0 q3S0 sx6_0) (kit_sub ex6_1 q2S1 q3S1 sx6_1) (kit_sub ex6_2 q2S2 q3S2 sx6_2) (kit_sub ex6_3 q2S3 q3S3 sx6_3) (kit_sub ex6_4 q2S4 q3S4 sx6_4)) (all5 (kit_sub ex7_0 q2S0 q3S0 sx7_0) (kit_sub ex7_1 q2S1 q3S1 sx7_1) (kit_sub ex7_2 q2S2 q3S2 sx7_2) (kit_sub ex7_3 q2S3 q3S3 sx7_3) (kit_sub ex7_4 q2S4 q3S4 sx7_4))⟩
  have F0 := fun_mk (st := s_is_name) l0 c0 k0
  have D0 : Df K mg "is_name" s_is_name ["value"] f0 _ := ⟨F0, PySem.W.mg_of X G a0, F0.binds (ps := ["value"]) fun _ _ _ _ _ _ us hl => match us, hl with | [_], _ => rfl⟩
  have F1 := fun_mk (st := s_is_below) l1 c1 k1
  have D1 : Df K mg "is_below" s_is_below ["value", "bound"] f1 _ := ⟨F1, PySem.W.mg_of X G a1, F1.binds (ps := ["value", "bound"]) fun _ _ _ _ _ _ us hl => match us, hl with | [_, _], _ => rfl⟩
  have F2 := fun_mk (st := s_is_number) l2 c2 k2
  have D2 : Df K mg "is_number" s_is_number ["value"] f2 _ := ⟨F2, PySem.W.mg_of X G a2, F2.binds (ps := ["value"]) fun _ _ _ _ _ _ us hl => match us, hl with | [_], _ => rfl⟩
  have F3 := fun_mk (st := s_is_pair) l3 c3 k3
  have D3 : Df K mg "is_pair" s_is_pair ["pair", "size"] f3 _ := ⟨F3, PySem.W.mg_of X G a3, F3.binds (ps := ["pair", "size"]) fun _ _ _ _ _ _ us hl => match us, hl with | [_, _], _ => rfl⟩
  have F4 := fun_mk (st := s_is_row) l4 c4 k4
  have D4 : Df K mg "is_row" s_is_row ["row"] f4 _ := ⟨F4, PySem.W.mg_of X G a4, F4.binds (ps := ["row"]) fun _ _ _ _ _ _ us hl => match us, hl with | [_], _ => rfl⟩
  have F5 := fun_mk (st := s_check_rows) l5 c5 k5
  have D5 : Df K mg "check_rows" s_check_rows ["rows"] f5 _ := ⟨F5, PySem.W.mg_of X G a5, F5.binds (ps := ["rows"]) fun _ _ _ _ _ _ us hl => match us, hl with | [_], _ => rfl⟩
  have F6 := fun_mk (st := s_table_of) l6 c6 k6
  have D6 : Df K mg "table_of" s_table_of ["shape"] f6 _ := ⟨F6, PySem.W.mg_of X G a6, F6.binds (ps := ["shape"]) fun _ _ _ _ _ _ us hl => match us, hl with | [_], _ => rfl⟩
  have F7 := fun_mk (st := s_law_mixed) l7 c7 k7
  have D7 : Df K mg "_law_mixed" s_law_mixed ["_law_cell", "_law_k"] f7 _ := ⟨F7, PySem.W.mg_of X G a7, F7.binds (ps := ["_law_cell", "_law_k"]) fun _ _ _ _ _ _ us hl => match us, hl with | [_, _], _ => rfl⟩
  have F8 := fun_mk (st := s_law_draws) l8 c8 k8
  have D8 : Df K mg "_law_draws" s_law_draws ["_law_script", "_law_at", "_law_bounds"] f8 _ := ⟨F8, PySem.W.mg_of X G a8, F8.binds (ps := ["_law_script", "_law_at", "_law_bounds"]) fun _ _ _ _ _ _ us hl => match us, hl with | [_, _, _], _ => rfl⟩
  have F9 := fun_mk (st := s_law_is_whole) l9 c9 k9
  have D9 : Df K mg "_law_is_whole" s_law_is_whole ["_law_told", "_law_due"] f9 _ := ⟨F9, PySem.W.mg_of X G a9, F9.binds (ps := ["_law_told", "_law_due"]) fun _ _ _ _ _ _ us hl => match us, hl with | [_, _], _ => rfl⟩
  have F10 := fun_mk (st := s_law_make) l10 c10 k10
  have D10 : Df K mg "_law_make" s_law_make ["_law_which", "_law_size"] f10 _ := ⟨F10, PySem.W.mg_of X G a10, F10.binds (ps := ["_law_which", "_law_size"]) fun _ _ _ _ _ _ us hl => match us, hl with | [_, _], _ => rfl⟩
  have F11 := fun_mk (st := s_law_names) l11 c11 k11
  have D11 : Df K mg "_law_names" s_law_names ["_law_which"] f11 _ := ⟨F11, PySem.W.mg_of X G a11, F11.binds (ps := ["_law_which"]) fun _ _ _ _ _ _ us hl => match us, hl with | [_], _ => rfl⟩
  have F12 := fun_mk (st := s_law_do) l12 c12 k12
  have D12 : Df K mg "_law_do" s_law_do ["_law_name", "_law_state", "_law_size"] f12 _ := ⟨F12, PySem.W.mg_of X G a12, F12.binds (ps := ["_law_name", "_law_state", "_law_size"]) fun _ _ _ _ _ _ us hl => match us, hl with | [_, _, _], _ => rfl⟩
  have F13 := fun_mk (st := s_law_is_pair) l13 c13 k13
  have D13 : Df K mg "_law_is_pair" s_law_is_pair ["_law_told", "_law_due"] f13 _ := ⟨F13, PySem.W.mg_of X G a13, F13.binds (ps := ["_law_told", "_law_due"]) fun _ _ _ _ _ _ us hl => match us, hl with | [_, _], _ => rfl⟩
  have F14 := fun_mk (st := s_law_right) l14 c14 k14
  have D14 : Df K mg "_law_right" s_law_right ["_law_rows", "_law_names_here", "_law_size"] f14 _ := ⟨F14, PySem.W.mg_of X G a14, F14.binds (ps := ["_law_rows", "_law_names_here", "_law_size"]) fun _ _ _ _ _ _ us hl => match us, hl with | [_, _, _], _ => rfl⟩
  have F15 := fun_mk (st := s_law_table) l15 c15 k15
  have D15 : Df K mg "_law_table" s_law_table ["_law_table_here", "_law_names_here", "_law_size", "_law_calls"] f15 _ := ⟨F15, PySem.W.mg_of X G a15, F15.binds (ps := ["_law_table_here", "_law_names_here", "_law_size", "_law_calls"]) fun _ _ _ _ _ _ us hl => match us, hl with | [_, _, _, _], _ => rfl⟩
  have F16 := fun_mk (st := s_law_kin) l16 c16 k16
  have D16 : Df K mg "_law_kin" s_law_kin ["_law_shape", "_law_names_here"] f16 _ := ⟨F16, PySem.W.mg_of X G a16, F16.binds (ps := ["_law_shape", "_law_names_here"]) fun _ _ _ _ _ _ us hl => match us, hl with | [_, _], _ => rfl⟩
  have F17 := fun_mk (st := s_law_bad_size) l17 c17 k17
  have D17 : Df K mg "_law_bad_size" s_law_bad_size ["_law_which", "_law_size"] f17 _ := ⟨F17, PySem.W.mg_of X G a17, F17.binds (ps := ["_law_which", "_law_size"]) fun _ _ _ _ _ _ us hl => match us, hl with | [_, _], _ => rfl⟩
  have F18 := fun_mk (st := s_law) l18 c18 k18
  have D18 : Df K mg "law" s_law ["_law_script"] fa _ := ⟨F18, PySem.W.mg_of X G a18, F18.binds (ps := ["_law_script"]) fun _ _ _ _ _ _ us hl => match us, hl with | [_], _ => rfl⟩
  have FTI : FunD K "__init__" "Table.__init__" (defArgs s_Table_init) (defBody s_Table_init) (defScope s_Table_init) [V.int 0] [] fTI _ := ⟨⟨ocTI, odTI, .ref TD, kVTI, dcTI, pmTI, anTI, cdTI, ctTI, slTI, rfl, lTI, cTI, .inr ⟨fun z => (nomatch z), TD, _, [.int 0 tkD], ntD, rfl, vD, rfl, .cons ⟨_, rfl⟩ .nil⟩, .inl rfl⟩, kTI⟩
  obtain ⟨ds1, hds1, bI⟩ := FTI.binds1 (ps := ["self", "rows", "first"]) 3 1 (fun z => nomatch z) rfl fun T kV doc pm an cdv ct us its h1 h2 => match us, h1, its, h2 with | [_, _, _], _, [_], _ => ⟨_, rfl, rfl⟩
  cases hds1
  have FTN := fun_mk (st := s_Table_names) lTN cTN kTN
  have bTN : Binds K _ ["self"] [] := FTN.binds (ps := ["self"]) fun _ _ _ _ _ _ us hl => match us, hl with | [_], _ => rfl
  have FTO := fun_mk (st := s_Table_call) lTO cTO kTO
  have bTO : Binds K _ ["self", "name", "state"] [] := FTO.binds (ps := ["self", "name", "state"]) fun _ _ _ _ _ _ us hl => match us, hl with | [_, _, _], _ => rfl
  have FTA := fun_mk (st := s_Table_answers) lTA cTA kTA
  have bTA : Binds K _ ["self", "calls"] [] := FTA.binds (ps := ["self", "calls"]) fun _ _ _ _ _ _ us hl => match us, hl with | [_, _], _ => rfl
  have FTK := fun_mk (st := s_Table_check_name) lTK cTK kTK
  have bTK : Binds K _ ["self", "name"] [] := FTK.binds (ps := ["self", "name"]) fun _ _ _ _ _ _ us hl => match us, hl with | [_, _], _ => rfl
  have FI0 := fun_mk (st := s_Shape_init) lI0 cI0 kI0
  have bI0 : Binds K _ ["self", "size"] [] := FI0.binds (ps := ["self", "size"]) fun _ _ _ _ _ _ us hl => match us, hl with | [_, _], _ => rfl
  have FR0 := fun_mk (st := s_Shape_rows) lR0 cR0 kR0
  have bR0 : Binds K _ ["self"] [] := FR0.binds (ps := ["self"]) fun _ _ _ _ _ _ us hl => match us, hl with | [_], _ => rfl
  have MT : Mk K TC fTI := ⟨p5T, mTI, hTI, p9T⟩
  have MEN : Meth K TC _ fTN := ⟨mTN, hTN, kTN⟩
  have MEA : Meth K TC _ fTA := ⟨mTA, hTA, kTA⟩
  have MEK : Meth K TC _ fTK := ⟨mTK, hTK, kTK⟩
  have CO : CallO K TC fTO := ⟨mTO, hTO, iTO⟩
  have FR1 : FunX K "rows" "Looks.rows" s_Looks_rows fR1 _ ccR1 cdaR1 Y1 := ⟨⟨ocR1, odR1, kVR1, dcR1, pmR1, anR1, ctR1, slR1, rfl, lR1, cR1⟩, ⟨clR1, cdR1, csR1, eR1⟩, kR1⟩
  have CR1 : CodeF K l.prog cdaR1 := ⟨⟨cxR1, ceR1, vsR1, czR1, fileR1, tfR1, b11R1, b12R1, b13R1⟩, b14⟩
  have bR1 : Binds K _ ["self"] [] := .all (fd := PySem.W.fnX "rows" "Looks.rows" (defArgs s_Looks_rows) (defBody s_Looks_rows) (defScope s_Looks_rows) [("__class__", ccR1)] .none kVR1 dcR1 pmR1 anR1 (.ref cdaR1) ctR1) fun us hl => match us, hl with | [_], _ => rfl
  have FR2 : FunX K "rows" "Ups.rows" s_Ups_rows fR2 _ ccR2 cdaR2 Y2 := ⟨⟨ocR2, odR2, kVR2, dcR2, pmR2, anR2, ctR2, slR2, rfl, lR2, cR2⟩, ⟨clR2, cdR2, csR2, eR2⟩, kR2⟩
  have CR2 : CodeF K l.prog cdaR2 := ⟨⟨cxR2, ceR2, vsR2, czR2, fileR2, tfR2, b11R2, b12R2, b13R2⟩, b14⟩
  have bR2 : Binds K _ ["self"] [] := .all (fd := PySem.W.fnX "rows" "Ups.rows" (defArgs s_Ups_rows) (defBody s_Ups_rows) (defScope s_Ups_rows) [("__class__", ccR2)] .none kVR2 dcR2 pmR2 anR2 (.ref cdaR2) ctR2) fun us hl => match us, hl with | [_], _ => rfl
  have FR3 : FunX K "rows" "Tops.rows" s_Tops_rows fR3 _ ccR3 cdaR3 Y3 := ⟨⟨ocR3, odR3, kVR3, dcR3, pmR3, anR3, ctR3, slR3, rfl, lR3, cR3⟩, ⟨clR3, cdR3, csR3, eR3⟩, kR3⟩
  have CR3 : CodeF K l.prog cdaR3 := ⟨⟨cxR3, ceR3, vsR3, czR3, fileR3, tfR3, b11R3, b12R3, b13R3⟩, b14⟩
  have bR3 : Binds K _ ["self"] [] := .all (fd := PySem.W.fnX "rows" "Tops.rows" (defArgs s_Tops_rows) (defBody s_Tops_rows) (defScope s_Tops_rows) [("__class__", ccR3)] .none kVR3 dcR3 pmR3 anR3 (.ref cdaR3) ctR3) fun us hl => match us, hl with | [_], _ => rfl
  have FR4 : FunX K "rows" "Clears.rows" s_Clears_rows fR4 _ ccR4 cdaR4 Y4 := ⟨⟨ocR4, odR4, kVR4, dcR4, pmR4, anR4, ctR4, slR4, rfl, lR4, cR4⟩, ⟨clR4, cdR4, csR4, eR4⟩, kR4⟩
  have CR4 : CodeF K l.prog cdaR4 := ⟨⟨cxR4, ceR4, vsR4, czR4, fileR4, tfR4, b11R4, b12R4, b13R4⟩, b14⟩
  have bR4 : Binds K _ ["self"] [] := .all (fd := PySem.W.fnX "rows" "Clears.rows" (defArgs s_Clears_rows) (defBody s_Clears_rows) (defScope s_Clears_rows) [("__class__", ccR4)] .none kVR4 dcR4 pmR4 anR4 (.ref cdaR4) ctR4) fun us hl => match us, hl with | [_], _ => rfl
  have FR5 : FunX K "rows" "Ticket.rows" s_Ticket_rows fR5 _ ccR5 cdaR5 Y5 := ⟨⟨ocR5, odR5, kVR5, dcR5, pmR5, anR5, ctR5, slR5, rfl, lR5, cR5⟩, ⟨clR5, cdR5, csR5, eR5⟩, kR5⟩
  have CR5 : CodeF K l.prog cdaR5 := ⟨⟨cxR5, ceR5, vsR5, czR5, fileR5, tfR5, b11R5, b12R5, b13R5⟩, b14⟩
  have bR5 : Binds K _ ["self"] [] := .all (fd := PySem.W.fnX "rows" "Ticket.rows" (defArgs s_Ticket_rows) (defBody s_Ticket_rows) (defScope s_Ticket_rows) [("__class__", ccR5)] .none kVR5 dcR5 pmR5 anR5 (.ref cdaR5) ctR5) fun us hl => match us, hl with | [_], _ => rfl
  have FR6 : FunX K "rows" "Latch.rows" s_Latch_rows fR6 _ ccR6 cdaR6 Y6 := ⟨⟨ocR6, odR6, kVR6, dcR6, pmR6, anR6, ctR6, slR6, rfl, lR6, cR6⟩, ⟨clR6, cdR6, csR6, eR6⟩, kR6⟩
  have CR6 : CodeF K l.prog cdaR6 := ⟨⟨cxR6, ceR6, vsR6, czR6, fileR6, tfR6, b11R6, b12R6, b13R6⟩, b14⟩
  have bR6 : Binds K _ ["self"] [] := .all (fd := PySem.W.fnX "rows" "Latch.rows" (defArgs s_Latch_rows) (defBody s_Latch_rows) (defScope s_Latch_rows) [("__class__", ccR6)] .none kVR6 dcR6 pmR6 anR6 (.ref cdaR6) ctR6) fun us hl => match us, hl with | [_], _ => rfl
  have FR7 : FunX K "rows" "Meter.rows" s_Meter_rows fR7 _ ccR7 cdaR7 Y7 := ⟨⟨ocR7, odR7, kVR7, dcR7, pmR7, anR7, ctR7, slR7, rfl, lR7, cR7⟩, ⟨clR7, cdR7, csR7, eR7⟩, kR7⟩
  have CR7 : CodeF K l.prog cdaR7 := ⟨⟨cxR7, ceR7, vsR7, czR7, fileR7, tfR7, b11R7, b12R7, b13R7⟩, b14⟩
  have bR7 : Binds K _ ["self"] [] := .all (fd := PySem.W.fnX "rows" "Meter.rows" (defArgs s_Meter_rows) (defBody s_Meter_rows) (defScope s_Meter_rows) [("__class__", ccR7)] .none kVR7 dcR7 pmR7 anR7 (.ref cdaR7) ctR7) fun us hl => match us, hl with | [_], _ => rfl
  have N44 : Nxt K Y4 Y4 "rows" fR0 := ⟨u44, iR0, tyR0, w44, b9⟩
  have N64 : Nxt K Y6 Y4 "rows" fR0 := ⟨u64, iR0, tyR0, w64, b9⟩
  have N74 : Nxt K Y7 Y4 "rows" fR0 := ⟨u74, iR0, tyR0, w74, b9⟩
  have N22 : Nxt K Y2 Y2 "rows" fR0 := ⟨u22, iR0, tyR0, w22, b9⟩
  have N52 : Nxt K Y5 Y2 "rows" fR0 := ⟨u52, iR0, tyR0, w52, b9⟩
  have N72 : Nxt K Y7 Y2 "rows" fR4 := ⟨u72, iR4, tyR4, w72, b9⟩
  have N33 : Nxt K Y3 Y3 "rows" fR0 := ⟨u33, iR0, tyR0, w33, b9⟩
  have N63 : Nxt K Y6 Y3 "rows" fR4 := ⟨u63, iR4, tyR4, w63, b9⟩
  have N11 : Nxt K Y1 Y1 "rows" fR0 := ⟨u11, iR0, tyR0, w11, b9⟩
  have N51 : Nxt K Y5 Y1 "rows" fR2 := ⟨u51, iR2, tyR2, w51, b9⟩
  have N71 : Nxt K Y7 Y1 "rows" fR2 := ⟨u71, iR2, tyR2, w71, b9⟩
  have N55 : Nxt K Y5 Y5 "rows" fR1 := ⟨u55, iR1, tyR1, w55, b9⟩
  have N66 : Nxt K Y6 Y6 "rows" fR3 := ⟨u66, iR3, tyR3, w66, b9⟩
  have N77 : Nxt K Y7 Y7 "rows" fR1 := ⟨u77, iR1, tyR1, w77, b9⟩
  have SF : ShF l.prog w K mg base (pick8 Y0 Y1 Y2 Y3 Y4 Y5 Y6 Y7) := shF_of (c := (pick8 Y0 Y1 Y2 Y3 Y4 Y5 Y6 Y7)) (f := (pick8 fR0 fR1 fR2 fR3 fR4 fR5 fR6 fR7)) TS_ CL8 DC8 MR8 FR0 bR0 FR1 CR1 bR1 FR2 CR2 bR2 FR3 CR3 bR3 FR4 CR4 bR4 FR5 CR5 bR5 FR6 CR6 bR6 FR7 CR7 bR7 N44 N64 N74 N22 N52 N72 N33 N63 N11 N51 N71 N55 N66 N77
  have G0 := ok_is_name (P := l.prog) (w := w) (base := base) D0 T1
  have G1 := ok_is_below (P := l.prog) (w := w) (base := base) D1 T1
  have G2 := ok_is_number (P := l.prog) (w := w) (base := base) D2 T1 D1 G1
  have G3 := ok_is_pair (P := l.prog) (w := w) (base := base) D3 T1 D2 G2 D1 G1
  have G4 := ok_is_row (P := l.prog) (w := w) (base := base) D4 T1 D3 G3
  have G5 := ok_check_rows (P := l.prog) (w := w) (base := base) D5 T1 ERB D0 G0 D4 G4
  have GTI := ok_Table_init (P := l.prog) (w := w) (base := base) FTI T1 TC_ ERB D5 G5 D1 G1
  have GTN := ok_Table_names (P := l.prog) (w := w) (base := base) FTN T1 TC_
  have GTK := ok_Table_check_name (P := l.prog) (w := w) (base := base) FTK T1 TC_ ERQ D0 G0
  have GTO := ok_Table_call (P := l.prog) (w := w) (base := base) FTO T1 TC_ ERN MEK bTK GTK D1 G1
  have GTA := ok_Table_answers (P := l.prog) (w := w) (base := base) FTA T1 TC_ MEK bTK GTK
  have GI0 := ok_Shape_init (P := l.prog) (w := w) (base := base) FI0 ERN D2 G2
  have G6 := ok_table_of (P := l.prog) (w := w) (base := base) D6 SF TC_ MT bI GTI
  have G7 := ok_law_mixed (P := l.prog) (w := w) (base := base) D7 TG
  have G8 := ok_law_draws (P := l.prog) (w := w) (base := base) D8 TG D7 G7
  have G9 := ok_law_is_whole (P := l.prog) (w := w) (base := base) D9 TI_
  have ZW := okz_law_is_whole (P := l.prog) (w := w) (base := base) D9 TI_
  have G10 := ok_law_make (P := l.prog) (w := w) (base := base) D10 TC8 M8 CL8 bI0 GI0
  have G11 := ok_law_names (P := l.prog) (w := w) (base := base) D11 TI_
  have G12 := ok_law_do (P := l.prog) (w := w) (base := base) D12 TI_
  have G13 := ok_law_is_pair (P := l.prog) (w := w) (base := base) D13 TI_ D9 G9
  have G14 := ok_law_right (P := l.prog) (w := w) (base := base) D14 TI_ D13 G13 D12 G12
  have G15 := ok_law_table (P := l.prog) (w := w) (base := base) D15 TI_ TC_ D13 G13 D12 G12 D9 G9 MEN bTN GTN CO bTO GTO MEA bTA GTA
  have G16 := ok_law_kin (P := l.prog) (w := w) (base := base) D16 TC8 KF8
  have G17 := ok_law_bad_size (P := l.prog) (w := w) (base := base) D17 TE D9 ZW D10 G10
  exact ok_law (P := l.prog) (w := w) (base := base) D18 TV SF D8 G8 D10 G10 D11 G11 D9 G9 D14 G14 D16 G16 D17 G17 D15 G15 D6 G6
theorem walk {l : PySem.W.OpenLaw} {q : Program} {loose : List Str} {XP : (Str → Option Value) → Heap → Prop} {YP : World → Heap → Prop} {d : DefRec} {K : Params → PySem.W.Frag} (hn : l.most = some 63) (hdf : d.params.defaults = [])
    (hY : ∀ (w : World) (h : Heap), YP w h → (K w.params).In h)
    (F : ∀ (w : World) (mg : Str → Option Value) (fa : Addr) (h : Heap), (K w.params).In h → h.Ns mainGlobals mg → mg d.name = some (.ref fa) →
      ∃ fd : FuncData, (∀ (s : Shared) (u : Value), BindsTo s fd ⟨[u], []⟩ [("_law_script", u)]) ∧ ∀ base : Heap, (K w.params).In base → base.Ns mainGlobals mg → FnOk l.prog w (K w.params) mg base CX0 13 fa fd ["_law_script"] (spLaw (K w.params))) :
    PySem.W.WalkO q loose XP YP l.row.toRowW d [] (fun f vs => PySem.call f vs) :=
  L2.walk_of (n := 63) (k := 13) (x := "_law_script") (CX := fun _ => CX0) (sp := fun w => spLaw (K w.params)) hn (by decide) hdf ⟨rfl, by decide, by decide⟩ hY F (fun _ _ a ns hl _ hS => ⟨a, ns, rfl, hS, hl, fun _ => rfl⟩) fun _ _ _ _ _ z => z
end My
open PySem PySem.W PyProof.Rows in
set_option maxRecDepth 100000 in
set_option maxHeartbeats 0 in
theorem PySem.Challenge.cw_coretower_k15_shapes_holds : PySem.Challenge.rw_coretower_k15_shapes.Holds := by
  w_on; o_law; k_head; (case hw => w_witness2)
  k_fill
  refine My.walk (l := PySem.Challenge.rw_coretower_k15_shapes) rfl rfl (fun w h Y => PySem.W.kIn_of Y) ?F
  case F =>
    intro w mg fa h KX G hmg
    refine' My.all_mk KX G hmg ?a0 ?l0 ?c0 ?k0 ?a1 ?l1 ?c1 ?k1 ?a2 ?l2 ?c2 ?k2 ?a3 ?l3 ?c3 ?k3 ?a4 ?l4 ?c4 ?k4 ?a5 ?l5 ?c5 ?k5 ?a6 ?l6 ?c6 ?k6 ?a7 ?l7 ?c7 ?k7 ?a8 ?l8 ?c8 ?k8 ?a9 ?l9 ?c9 ?k9 ?a10 ?l10 ?c10 ?k10 ?a11 ?l11 ?c11 ?k11 ?a12 ?l12 ?c12 ?k12 ?a13 ?l13 ?c13 ?k13 ?a14 ?l14 ?c14 ?k14 ?a15 ?l15 ?c15 ?k15 ?a16 ?l16 ?c16 ?k16 ?a17 ?l17 ?c17 ?k17 ?a18 ?l18 ?c18 ?k18 ?z_isinstance ?z_str ?z_int ?z_bool ?z_tuple ?z_list ?z_dict ?z_len ?z_all ?z_abs ?z_range ?z_super ?gL ?eL ?gX6 ?gX1 ?aN ?xN ?rN ?b1N ?q1N ?q2N ?q3N ?b4N ?b5N ?b6N ?lN ?cN ?kN ?eN ?b7N ?b8N ?b9 ?b14 ?b31 ?p12 ?p13 ?b10N ?b11N ?b12N ?b13N ?b15N ?b17N ?b18N ?b19N ?b25N ?b26N ?aB ?xB ?rB ?b1B ?q1B ?q2B ?q3B ?b4B ?b5B ?b6B ?lB ?cB ?kB ?eB ?b7B ?b8B ?b10B ?b11B ?b12B ?b13B ?b15B ?b17B ?b18B ?b19B ?b25B ?b26B ?aQ ?xQ ?rQ ?b1Q ?q1Q ?q2Q ?q3Q ?b4Q ?b5Q ?b6Q ?lQ ?cQ ?kQ ?eQ ?b7Q ?b8Q ?b10Q ?b11Q ?b12Q ?b13Q ?b15Q ?b17Q ?b18Q ?b19Q ?b25Q ?b26Q ?aC ?q1C ?q2C ?q3C ?aT ?p1T ?p2T ?p3T ?p4T ?n0T ?n1T ?n2T ?p9T ?p5T ?mTI ?hTI ?lTI ?cTI ?kTI ?mTN ?hTN ?lTN ?cTN ?kTN ?mTO ?hTO ?lTO ?cTO ?kTO ?mTA ?hTA ?lTA ?cTA ?kTA ?mTK ?hTK ?lTK ?cTK ?kTK ?iTO ?vD ?uD ?sBN ?sBNC ?eBNC ?sBNBT ?eBNBT ?aS0 ?p1S0 ?p2S0 ?p3S0 ?p4S0 ?n0S0 ?p9S0 ?p5S0 ?q2S0 ?q3S0 ?haS0 ?hmS0 ?aS1 ?p1S1 ?p2S1 ?p3S1 ?p4S1 ?n0S1 ?p9S1 ?p5S1 ?q2S1 ?q3S1 ?haS1 ?hmS1 ?aS2 ?p1S2 ?p2S2 ?p3S2 ?p4S2 ?n0S2 ?p9S2 ?p5S2 ?q2S2 ?q3S2 ?haS2 ?hmS2 ?aS3 ?p1S3 ?p2S3 ?p3S3 ?p4S3 ?n0S3 ?p9S3 ?p5S3 ?q2S3 ?q3S3 ?haS3 ?hmS3 ?aS4 ?p1S4 ?p2S4 ?p3S4 ?p4S4 ?n0S4 ?p9S4 ?p5S4 ?q2S4 ?q3S4 ?haS4 ?hmS4 ?aS5 ?p1S5 ?p2S5 ?p3S5 ?p4S5 ?n0S5 ?p9S5 ?p5S5 ?q2S5 ?q3S5 ?haS5 ?hmS5 ?aS6 ?p1S6 ?p2S6 ?p3S6 ?p4S6 ?n0S6 ?p9S6 ?p5S6 ?q2S6 ?q3S6 ?haS6 ?hmS6 ?aS7 ?p1S7 ?p2S7 ?p3S7 ?p4S7 ?n0S7 ?p9S7 ?p5S7 ?q2S7 ?q3S7 ?haS7 ?hmS7 ?mI0 ?hI0 ?lI0 ?cI0 ?kI0 ?mR0 ?hR0 ?lR0 ?cR0 ?kR0 ?mI1 ?mI2 ?mI3 ?mI4 ?mI5 ?mI6 ?mI7 ?mR1 ?hR1 ?lR1 ?cR1 ?kR1 ?eR1 ?b11R1 ?b12R1 ?b13R1 ?mR2 ?hR2 ?lR2 ?cR2 ?kR2 ?eR2 ?b11R2 ?b12R2 ?b13R2 ?mR3 ?hR3 ?lR3 ?cR3 ?kR3 ?eR3 ?b11R3 ?b12R3 ?b13R3 ?mR4 ?hR4 ?lR4 ?cR4 ?kR4 ?eR4 ?b11R4 ?b12R4 ?b13R4 ?mR5 ?hR5 ?lR5 ?cR5 ?kR5 ?eR5 ?b11R5 ?b12R5 ?b13R5 ?mR6 ?hR6 ?lR6 ?cR6 ?kR6 ?eR6 ?b11R6 ?b12R6 ?b13R6 ?mR7 ?hR7 ?lR7 ?cR7 ?kR7 ?eR7 ?b11R7 ?b12R7 ?b13R7 ?iR0 ?tyR0 ?iR1 ?tyR1 ?iR2 ?tyR2 ?iR3 ?tyR3 ?iR4 ?tyR4 ?u44 ?w44 ?u64 ?w64 ?u74 ?w74 ?u22 ?w22 ?u52 ?w52 ?u72 ?w72 ?u33 ?w33 ?u63 ?w63 ?u11 ?w11 ?u51 ?w51 ?u71 ?w71 ?u55 ?w55 ?u66 ?w66 ?u77 ?w77 ?sx0_1 ?ex0_1 ?sx0_2 ?ex0_2 ?sx0_3 ?ex0_3 ?sx0_4 ?ex0_4 ?sx1_0 ?ex1_0 ?sx1_2 ?ex1_2 ?sx1_3 ?ex1_3 ?sx1_4 ?ex1_4 ?sx2_0 ?ex2_0 ?sx2_1 ?ex2_1 ?sx2_3 ?ex2_3 ?sx2_4 ?ex2_4 ?sx3_0 ?ex3_0 ?sx3_1 ?ex3_1 ?sx3_2 ?ex3_2 ?sx3_4 ?ex3_4 ?sx4_0 ?ex4_0 ?sx4_1 ?ex4_1 ?sx4_2 ?ex4_2 ?sx4_3 ?ex4_3 ?sx5_0 ?ex5_0 ?sx5_1 ?ex5_1 ?sx5_2 ?ex5_2 ?sx5_3 ?ex5_3 ?sx5_4 ?ex5_4 ?sx6_0 ?ex6_0 ?sx6_1 ?ex6_1 ?sx6_2 ?ex6_2 ?sx6_3 ?ex6_3 ?sx6_4 ?ex6_4 ?sx7_0 ?ex7_0 ?sx7_1 ?ex7_1 ?sx7_2 ?ex7_2 ?sx7_3 ?ex7_3 ?sx7_4 ?ex7_4
    (case a0 => k_is)
    (case l0 => k_is)
    (case c0 => k_is)
    (case k0 => k_is)
    (case a1 => k_is)
    (case l1 => k_is)
    (case c1 => k_is)
    (case k1 => k_is)
    (case a2 => k_is)
    (case l2 => k_is)
    (case c2 => k_is)
    (case k2 => k_is)
    (case a3 => k_is)
    (case l3 => k_is)
    (case c3 => k_is)
    (case k3 => k_is)
    (case a4 => k_is)
    (case l4 => k_is)
    (case c4 => k_is)
    (case k4 => k_is)
    (case a5 => k_is)
    (case l5 => k_is)
    (case c5 => k_is)
    (case k5 => k_is)
    (case a6 => k_is)
    (case l6 => k_is)
    (case c6 => k_is)
    (case k6 => k_is)
    (case a7 => k_is)
    (case l7 => k_is)
    (case c7 => k_is)
    (case k7 => k_is)
    (case a8 => k_is)
    (case l8 => k_is)
    (case c8 => k_is)
    (case k8 => k_is)
    (case a9 => k_is)
    (case l9 => k_is)
    (case c9 => k_is)
    (case k9 => k_is)
    (case a10 => k_is)
    (case l10 => k_is)
    (case c10 => k_is)
    (case k10 => k_is)
    (case a11 => k_is)
    (case l11 => k_is)
    (case c11 => k_is)
    (case k11 => k_is)
    (case a12 => k_is)
    (case l12 => k_is)
    (case c12 => k_is)
    (case k12 => k_is)
    (case a13 => k_is)
    (case l13 => k_is)
    (case c13 => k_is)
    (case k13 => k_is)
    (case a14 => k_is)
    (case l14 => k_is)
    (case c14 => k_is)
    (case k14 => k_is)
    (case a15 => k_is)
    (case l15 => k_is)
    (case c15 => k_is)
    (case k15 => k_is)
    (case a16 => k_is)
    (case l16 => k_is)
    (case c16 => k_is)
    (case k16 => k_is)
    (case a17 => k_is)
    (case l17 => k_is)
    (case c17 => k_is)
    (case k17 => k_is)
    (case a18 => k_is)
    (case l18 => k_is)
    (case c18 => k_is)
    (case k18 => k_is)
    (case z_isinstance => k_is)
    (case z_str => k_is)
    (case z_int => k_is)
    (case z_bool => k_is)
    (case z_tuple => k_is)
    (case z_list => k_is)
    (case z_dict => k_is)
    (case z_len => k_is)
    (case z_all => k_is)
    (case z_abs => k_is)
    (case z_range => k_is)
    (case z_super => k_is)
    (case gL => k_is)
    (case eL => decide +kernel)
    (case gX6 => k_is)
    (case gX1 => k_is)
    (case aN => k_is)
    (case xN => k_is)
    (case rN => decide +kernel)
    (case b1N => k_is)
    (case q1N => k_is)
    (case q2N => k_is)
    (case q3N => k_is)
    (case b4N => k_is)
    (case b5N => k_is)
    (case b6N => k_is)
    (case lN => k_is)
    (case cN => k_is)
    (case kN => k_is)
    (case eN => k_is)
    (case b7N => ks_is)
    (case b8N => k_is)
    (case b9 => k_is)
    (case b14 => first | rfl | decide +kernel)
    (case b31 => decide +kernel)
    (case p12 => k_is)
    (case p13 => k_is)
    (case b10N => k_is)
    (case b11N => k_is)
    (case b12N => rfl)
    (case b13N => first | rfl | decide +kernel)
    (case b15N => k_is)
    (case b17N => k_is)
    (case b18N => k_is)
    (case b19N => k_is)
    (case b25N => k_is)
    (case b26N => k_is)
    (case aB => k_is)
    (case xB => k_is)
    (case rB => decide +kernel)
    (case b1B => k_is)
    (case q1B => k_is)
    (case q2B => k_is)
    (case q3B => k_is)
    (case b4B => k_is)
    (case b5B => k_is)
    (case b6B => k_is)
    (case lB => k_is)
    (case cB => k_is)
    (case kB => k_is)
    (case eB => k_is)
    (case b7B => ks_is)
    (case b8B => k_is)
    (case b10B => k_is)
    (case b11B => k_is)
    (case b12B => rfl)
    (case b13B => first | rfl | decide +kernel)
    (case b15B => k_is)
    (case b17B => k_is)
    (case b18B => k_is)
    (case b19B => k_is)
    (case b25B => k_is)
    (case b26B => k_is)
    (case aQ => k_is)
    (case xQ => k_is)
    (case rQ => decide +kernel)
    (case b1Q => k_is)
    (case q1Q => k_is)
    (case q2Q => k_is)
    (case q3Q => k_is)
    (case b4Q => k_is)
    (case b5Q => k_is)
    (case b6Q => k_is)
    (case lQ => k_is)
    (case cQ => k_is)
    (case kQ => k_is)
    (case eQ => k_is)
    (case b7Q => ks_is)
    (case b8Q => k_is)
    (case b10Q => k_is)
    (case b11Q => k_is)
    (case b12Q => rfl)
    (case b13Q => first | rfl | decide +kernel)
    (case b15Q => k_is)
    (case b17Q => k_is)
    (case b18Q => k_is)
    (case b19Q => k_is)
    (case b25Q => k_is)
    (case b26Q => k_is)
    (case aC => k_is)
    (case q1C => k_is)
    (case q2C => k_is)
    (case q3C => k_is)
    (case aT => k_is)
    (case p1T => k_is)
    (case p2T => k_is)
    (case p3T => k_is)
    (case p4T => k_is)
    (case n0T => k_is)
    (case n1T => k_is)
    (case n2T => k_is)
    (case p9T => k_is)
    (case p5T => k_is)
    (case mTI => k_is)
    (case hTI => k_is)
    (case lTI => k_is)
    (case cTI => k_is)
    (case kTI => k_is)
    (case mTN => k_is)
    (case hTN => k_is)
    (case lTN => k_is)
    (case cTN => k_is)
    (case kTN => k_is)
    (case mTO => k_is)
    (case hTO => k_is)
    (case lTO => k_is)
    (case cTO => k_is)
    (case kTO => k_is)
    (case mTA => k_is)
    (case hTA => k_is)
    (case lTA => k_is)
    (case cTA => k_is)
    (case kTA => k_is)
    (case mTK => k_is)
    (case hTK => k_is)
    (case lTK => k_is)
    (case cTK => k_is)
    (case kTK => k_is)
    (case iTO => k_is)
    (case vD => k_is)
    (case uD => exact rfl)
    (case sBN => first | rfl | k_is)
    (case sBNC => first | rfl | k_is)
    (case eBNC => decide +kernel)
    (case sBNBT => first | rfl | k_is)
    (case eBNBT => decide +kernel)
    (case aS0 => k_is)
    (case p1S0 => k_is)
    (case p2S0 => k_is)
    (case p3S0 => k_is)
    (case p4S0 => k_is)
    (case n0S0 => k_is)
    (case p9S0 => k_is)
    (case p5S0 => k_is)
    (case q2S0 => k_is)
    (case q3S0 => k_is)
    (case haS0 => k_is)
    (case hmS0 => k_is)
    (case aS1 => k_is)
    (case p1S1 => k_is)
    (case p2S1 => k_is)
    (case p3S1 => k_is)
    (case p4S1 => k_is)
    (case n0S1 => k_is)
    (case p9S1 => k_is)
    (case p5S1 => k_is)
    (case q2S1 => k_is)
    (case q3S1 => k_is)
    (case haS1 => k_is)
    (case hmS1 => k_is)
    (case aS2 => k_is)
    (case p1S2 => k_is)
    (case p2S2 => k_is)
    (case p3S2 => k_is)
    (case p4S2 => k_is)
    (case n0S2 => k_is)
    (case p9S2 => k_is)
    (case p5S2 => k_is)
    (case q2S2 => k_is)
    (case q3S2 => k_is)
    (case haS2 => k_is)
    (case hmS2 => k_is)
    (case aS3 => k_is)
    (case p1S3 => k_is)
    (case p2S3 => k_is)
    (case p3S3 => k_is)
    (case p4S3 => k_is)
    (case n0S3 => k_is)
    (case p9S3 => k_is)
    (case p5S3 => k_is)
    (case q2S3 => k_is)
    (case q3S3 => k_is)
    (case haS3 => k_is)
    (case hmS3 => k_is)
    (case aS4 => k_is)
    (case p1S4 => k_is)
    (case p2S4 => k_is)
    (case p3S4 => k_is)
    (case p4S4 => k_is)
    (case n0S4 => k_is)
    (case p9S4 => k_is)
    (case p5S4 => k_is)
    (case q2S4 => k_is)
    (case q3S4 => k_is)
    (case haS4 => k_is)
    (case hmS4 => k_is)
    (case aS5 => k_is)
    (case p1S5 => k_is)
    (case p2S5 => k_is)
    (case p3S5 => k_is)
    (case p4S5 => k_is)
    (case n0S5 => k_is)
    (case p9S5 => k_is)
    (case p5S5 => k_is)
    (case q2S5 => k_is)
    (case q3S5 => k_is)
    (case haS5 => k_is)
    (case hmS5 => k_is)
    (case aS6 => k_is)
    (case p1S6 => k_is)
    (case p2S6 => k_is)
    (case p3S6 => k_is)
    (case p4S6 => k_is)
    (case n0S6 => k_is)
    (case p9S6 => k_is)
    (case p5S6 => k_is)
    (case q2S6 => k_is)
    (case q3S6 => k_is)
    (case haS6 => k_is)
    (case hmS6 => k_is)
    (case aS7 => k_is)
    (case p1S7 => k_is)
    (case p2S7 => k_is)
    (case p3S7 => k_is)
    (case p4S7 => k_is)
    (case n0S7 => k_is)
    (case p9S7 => k_is)
    (case p5S7 => k_is)
    (case q2S7 => k_is)
    (case q3S7 => k_is)
    (case haS7 => k_is)
    (case hmS7 => k_is)
    (case mI0 => k_is)
    (case hI0 => k_is)
    (case lI0 => k_is)
    (case cI0 => k_is)
    (case kI0 => k_is)
    (case mR0 => k_is)
    (case hR0 => k_is)
    (case lR0 => k_is)
    (case cR0 => k_is)
    (case kR0 => k_is)
    (case mI1 => k_is)
    (case mI2 => k_is)
    (case mI3 => k_is)
    (case mI4 => k_is)
    (case mI5 => k_is)
    (case mI6 => k_is)
    (case mI7 => k_is)
    (case mR1 => k_is)
    (case hR1 => k_is)
    (case lR1 => k_is)
    (case cR1 => k_is)
    (case kR1 => k_is)
    (case eR1 => k_is)
    (case b11R1 => k_is)
    (case b12R1 => rfl)
    (case b13R1 => first | rfl | decide +kernel)
    (case mR2 => k_is)
    (case hR2 => k_is)
    (case lR2 => k_is)
    (case cR2 => k_is)
    (case kR2 => k_is)
    (case eR2 => k_is)
    (case b11R2 => k_is)
    (case b12R2 => rfl)
    (case b13R2 => first | rfl | decide +kernel)
    (case mR3 => k_is)
    (case hR3 => k_is)
    (case lR3 => k_is)
    (case cR3 => k_is)
    (case kR3 => k_is)
    (case eR3 => k_is)
    (case b11R3 => k_is)
    (case b12R3 => rfl)
    (case b13R3 => first | rfl | decide +kernel)
    (case mR4 => k_is)
    (case hR4 => k_is)
    (case lR4 => k_is)
    (case cR4 => k_is)
    (case kR4 => k_is)
    (case eR4 => k_is)
    (case b11R4 => k_is)
    (case b12R4 => rfl)
    (case b13R4 => first | rfl | decide +kernel)
    (case mR5 => k_is)
    (case hR5 => k_is)
    (case lR5 => k_is)
    (case cR5 => k_is)
    (case kR5 => k_is)
    (case eR5 => k_is)
    (case b11R5 => k_is)
    (case b12R5 => rfl)
    (case b13R5 => first | rfl | decide +kernel)
    (case mR6 => k_is)
    (case hR6 => k_is)
    (case lR6 => k_is)
    (case cR6 => k_is)
    (case kR6 => k_is)
    (case eR6 => k_is)
    (case b11R6 => k_is)
    (case b12R6 => rfl)
    (case b13R6 => first | rfl | decide +kernel)
    (case mR7 => k_is)
    (case hR7 => k_is)
    (case lR7 => k_is)
    (case cR7 => k_is)
    (case kR7 => k_is)
    (case eR7 => k_is)
    (case b11R7 => k_is)
    (case b12R7 => rfl)
    (case b13R7 => first | rfl | decide +kernel)
    (case iR0 => k_is)
    (case tyR0 => k_is)
    (case iR1 => k_is)
    (case tyR1 => k_is)
    (case iR2 => k_is)
    (case tyR2 => k_is)
    (case iR3 => k_is)
    (case tyR3 => k_is)
    (case iR4 => k_is)
    (case tyR4 => k_is)
    (case u44 => ks_is)
    (case w44 => k_is)
    (case u64 => ks_is)
    (case w64 => k_is)
    (case u74 => ks_is)
    (case w74 => k_is)
    (case u22 => ks_is)
    (case w22 => k_is)
    (case u52 => ks_is)
    (case w52 => k_is)
    (case u72 => ks_is)
    (case w72 => k_is)
    (case u33 => ks_is)
    (case w33 => k_is)
    (case u63 => ks_is)
    (case w63 => k_is)
    (case u11 => ks_is)
    (case w11 => k_is)
    (case u51 => ks_is)
    (case w51 => k_is)
    (case u71 => ks_is)
    (case w71 => k_is)
    (case u55 => ks_is)
    (case w55 => k_is)
    (case u66 => ks_is)
    (case w66 => k_is)
    (case u77 => ks_is)
    (case w77 => k_is)
    (case sx0_1 => first | rfl | k_is)
    (case ex0_1 => decide +kernel)
    (case sx0_2 => first | rfl | k_is)
    (case ex0_2 => decide +kernel)
    (case sx0_3 => first | rfl | k_is)
    (case ex0_3 => decide +kernel)
    (case sx0_4 => first | rfl | k_is)
    (case ex0_4 => decide +kernel)
    (case sx1_0 => first | rfl | k_is)
    (case ex1_0 => decide +kernel)
    (case sx1_2 => first | rfl | k_is)
    (case ex1_2 => decide +kernel)
    (case sx1_3 => first | rfl | k_is)
    (case ex1_3 => decide +kernel)
    (case sx1_4 => first | rfl | k_is)
    (case ex1_4 => decide +kernel)
    (case sx2_0 => first | rfl | k_is)
    (case ex2_0 => decide +kernel)
    (case sx2_1 => first | rfl | k_is)
    (case ex2_1 => decide +kernel)
    (case sx2_3 => first | rfl | k_is)
    (case ex2_3 => decide +kernel)
    (case sx2_4 => first | rfl | k_is)
    (case ex2_4 => decide +kernel)
    (case sx3_0 => first | rfl | k_is)
    (case ex3_0 => decide +kernel)
    (case sx3_1 => first | rfl | k_is)
    (case ex3_1 => decide +kernel)
    (case sx3_2 => first | rfl | k_is)
    (case ex3_2 => decide +kernel)
    (case sx3_4 => first | rfl | k_is)
    (case ex3_4 => decide +kernel)
    (case sx4_0 => first | rfl | k_is)
    (case ex4_0 => decide +kernel)
    (case sx4_1 => first | rfl | k_is)
    (case ex4_1 => decide +kernel)
    (case sx4_2 => first | rfl | k_is)
    (case ex4_2 => decide +kernel)
    (case sx4_3 => first | rfl | k_is)
    (case ex4_3 => decide +kernel)
    (case sx5_0 => first | rfl | k_is)
    (case ex5_0 => decide +kernel)
    (case sx5_1 => first | rfl | k_is)
    (case ex5_1 => decide +kernel)
    (case sx5_2 => first | rfl | k_is)
    (case ex5_2 => decide +kernel)
    (case sx5_3 => first | rfl | k_is)
    (case ex5_3 => decide +kernel)
    (case sx5_4 => first | rfl | k_is)
    (case ex5_4 => decide +kernel)
    (case sx6_0 => first | rfl | k_is)
    (case ex6_0 => decide +kernel)
    (case sx6_1 => first | rfl | k_is)
    (case ex6_1 => decide +kernel)
    (case sx6_2 => first | rfl | k_is)
    (case ex6_2 => decide +kernel)
    (case sx6_3 => first | rfl | k_is)
    (case ex6_3 => decide +kernel)
    (case sx6_4 => first | rfl | k_is)
    (case ex6_4 => decide +kernel)
    (case sx7_0 => first | rfl | k_is)
    (case ex7_0 => decide +kernel)
    (case sx7_1 => first | rfl | k_is)
    (case ex7_1 => decide +kernel)
    (case sx7_2 => first | rfl | k_is)
    (case ex7_2 => decide +kernel)
    (case sx7_3 => first | rfl | k_is)
    (case ex7_3 => decide +kernel)
    (case sx7_4 => first | rfl | k_is)
    (case ex7_4 => decide +kernel)

