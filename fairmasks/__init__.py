"""Fairmasks: rows shown in part by whoever never opens what stays hidden."""
